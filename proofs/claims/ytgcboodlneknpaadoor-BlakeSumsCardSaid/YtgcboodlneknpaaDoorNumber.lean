
/- The contracts of what reads a number out of bytes. -/
import Derived.Test.YtgcboodlneknpaaDoorRows
import Derived.Test.YtgcboodlneknpaaDoorWords
import Derived.Test.YtgcboodlneknpaaDoorNum
namespace Go.Proofs.YtgcboodlneknpaaDoor
open Go.RowKit

set_option maxHeartbeats 400000 in
theorem number64 (w : World) (B : Nat) (A : Option Addr) (cap : Nat) (zs : List Int) (hr : Rd w B .u8 A zs) (hb : ByteL zs) (hl : zs.length ≤ 9223372036854775807) :
    Calls Tryd.prog 28 #[.slice A zs.length cap] w fun e w' => e = .returned (.int .u64 (big 18446744073709551616 zs)) ∧ w = w' := by
  go_enter Tryd.func28, Tryd.ntmps28
  go_wp2
  go_loop [3, 8] (fun x i => ∃ k : Nat, k ≤ zs.length ∧ i = .int .i64 k ∧ x = .int .u64 (big 18446744073709551616 (zs.take k))) (fun _ i => zs.length - (intOf i).toNat)
  case atStart => exact ⟨0, Nat.zero_le _, rfl, rfl⟩
  case round =>
    obtain ⟨k, hk, rfl, rfl⟩ := hrel
    by_cases hlt : k < zs.length
    · obtain ⟨b, o, rfl, _, hc⟩ := hr.get hlt
      have hx := (big_range 18446744073709551616 (zs.take k) (by decide)).1
      have HS := Lib.hid ((or_step64 _ _ hx (hb.get k)).trans (big_take 18446744073709551616 zs k hlt).symm)
      have hb0 := (hb.get k).1
      have hb1 := (hb.get k).2
      generalize zs.getD k 0 = c at hc HS hb0 hb1
      go_wp2
      go_round
      case rel => exact ⟨k + 1, by omega, by go_num, by rw [← HS.out, ← IntKind.wrap_u64]⟩
      case measure => simp [intOf]; omega
    · go_wp2
      go_ret
      exact ⟨ret_num (by rw [List.take_of_length_le (by omega)]), rfl⟩

end Go.Proofs.YtgcboodlneknpaaDoor
