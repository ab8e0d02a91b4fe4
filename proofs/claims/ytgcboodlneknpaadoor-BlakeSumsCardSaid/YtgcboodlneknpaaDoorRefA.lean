
/- The document's answers that other layers use: a number at a place. -/
import Derived.Test.YtgcboodlneknpaaDoorNumber
import Derived.Test.YtgcboodlneknpaaDoorCut
import Derived.Test.YtgcboodlneknpaaDoorLay
namespace Go.Proofs.YtgcboodlneknpaaDoor
open Go.RowKit

set_option maxHeartbeats 400000 in
/-- The number of eight bytes from place p on, the least one first. -/
theorem refLittleAt (w : World) (B : Nat) (A : Option Addr) (cap : Nat) (zs : List Int) (p : Nat) (hr : Rd w B .u8 A zs) (hb : ByteL zs) (hl : zs.length ≤ 4611686018427387904) (hp : p ≤ 2305843009213693952) :
    Calls Tryd.prog 14 #[.slice A zs.length cap, .int .i64 p] w fun e w' => e = .returned (.int .u64 (big 18446744073709551616 (pad (zs.drop p) 8).reverse)) ∧ w = w' := by
  go_enter Tryd.func14, Tryd.ntmps14
  go_wp2
  go_loop [5, 6] (fun x i => ∃ k : Nat, k ≤ 8 ∧ i = .int .i64 (((p + k : Nat) : Int) - 1) ∧ x = .int .u64 (big 18446744073709551616 ((pad (zs.drop p) 8).reverse.take (8 - k)))) (fun _ i => (intOf i + 1).toNat)
  case atStart => exact ⟨8, Nat.le_refl _, (by go_num), rfl⟩
  case round =>
    obtain ⟨k, hk, rfl, rfl⟩ := hrel
    rcases k with _ | m
    · have hc0 : ¬ ((p : Int) ≤ ((p + 0 : Nat) : Int) - 1) := by omega
      go_wp2
      go_ret
      exact ⟨ret_num (by rw [List.take_of_length_le (by simp [length_pad])]), rfl⟩
    · have hx := (big_range 18446744073709551616 ((pad (zs.drop p) 8).reverse.take (8 - (m + 1))) (by decide)).1
      have HS := Lib.hid (rev_step (zs.drop p) m (by omega))
      have hg : (zs.drop p).getD m 0 = zs.getD (p + m) 0 := getD_drop zs p m
      rw [hg] at HS
      rw [show ((p + (m + 1) : Nat) : Int) - 1 = ((p + m : Nat) : Int) by omega]
      generalize big 18446744073709551616 ((pad (zs.drop p) 8).reverse.take (8 - (m + 1))) = x at hx HS
      have HJ : Hid (((p + m : Nat) : Int) - 1 = ((p + m : Nat) : Int) - 1) := rfl
      clear hg
      generalize hj : p + m = j at *
      have hpj : (p : Int) ≤ (j : Int) := by omega
      have hj0 : j ≤ 2305843009213693960 := by omega
      by_cases hin : j < zs.length
      · obtain ⟨b, o, rfl, _, hc⟩ := hr.get hin
        have hb0 := (hb.get j).1
        have hb1 := (hb.get j).2
        generalize zs.getD j 0 = c at hc HS hb0 hb1
        have HJJ := Lib.hid hj
        clear hj
        go_wp2
        go_round
        case rel => exact ⟨m, by omega, by rw [HJJ.out], by rw [HS.out]; simp only [IntKind.wrap_u64]⟩
        case measure => simp [intOf]
      · have h0 : zs.getD j 0 = 0 := by simp [List.getD, List.getElem?_eq_none (Nat.le_of_not_lt hin)]
        rw [h0] at HS
        have HJJ := Lib.hid hj
        clear h0 hj
        go_wp2
        go_round
        case rel => exact ⟨m, by omega, by rw [HJJ.out], by rw [HS.out, Int.add_zero]; simp only [IntKind.wrap_u64, Int.emod_emod]⟩
        case measure => simp [intOf]
end Go.Proofs.YtgcboodlneknpaaDoor
