
/- The contracts of what reads a number out of bytes. -/
import Derived.Test.YtimmgajeflghlaaRows
import Derived.Test.YtimmgajeflghlaaWords
import Derived.Test.YtimmgajeflghlaaNum
namespace Go.Proofs.Ytimmgajeflghlaa
open Go.RowKit

set_option maxHeartbeats 400000 in
/-- The document's answer: the number of n bytes from a place on, missing ones 0. -/
theorem refNumber (w : World) (B : Nat) (A : Option Addr) (cap : Nat) (zs : List Int) (n : Nat) (hr : Rd w B .u8 A zs) (hb : ByteL zs) (hl : zs.length ≤ 9223372036854775807) (hn : n ≤ 9223372036854775807) :
    Calls Try.prog 18 #[.slice A zs.length cap, .int .i64 0, .int .i64 n] w fun e w' => e = .returned (.int .u64 (big 18446744073709551616 (pad zs n))) ∧ w = w' := by
  go_enter Try.func18, Try.ntmps18
  go_wp2
  go_loop [7, 8] (fun x i => ∃ k : Nat, k ≤ n ∧ i = .int .i64 k ∧ x = .int .u64 (big 18446744073709551616 (pad zs k))) (fun _ i => n - (intOf i).toNat)
  case atStart => exact ⟨0, Nat.zero_le _, rfl, rfl⟩
  case round =>
    obtain ⟨k, hk, rfl, rfl⟩ := hrel
    by_cases hlt : k < n
    · have hx := (big_range 18446744073709551616 (pad zs k) (by decide)).1
      have hx1 := (big_range 18446744073709551616 (pad zs k) (by decide)).2
      by_cases hin : k < zs.length
      · obtain ⟨b, o, rfl, _, hc⟩ := hr.get hin
        have HS := Lib.hid ((mod_step _ _ _).trans (big_pad 18446744073709551616 zs k).symm)
        have hb0 := (hb.get k).1
        have hb1 := (hb.get k).2
        generalize zs.getD k 0 = c at hc HS hb0 hb1
        go_wp2
        go_round
        case rel => exact ⟨k + 1, by omega, by go_num, by simp only [IntKind.wrap_u64]; rw [HS.out]⟩
        case measure => simp [intOf]; omega
      · have h0 : zs.getD k 0 = 0 := by simp [List.getD, List.getElem?_eq_none (Nat.le_of_not_lt hin)]
        have HS := Lib.hid ((big_pad 18446744073709551616 zs k).symm)
        rw [h0] at HS
        clear h0
        go_wp2
        go_round
        case rel => exact ⟨k + 1, by omega, by go_num, by rw [IntKind.wrap_u64, ← HS.out, Int.add_zero]⟩
        case measure => simp [intOf]; omega
    · have : k = n := by omega
      subst this
      go_wp2
      go_ret
      exact ⟨rfl, rfl⟩
end Go.Proofs.Ytimmgajeflghlaa
