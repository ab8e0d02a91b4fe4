
/- The document's answers that other layers use: a number at a place. -/
import Derived.Test.YtimmgajeflghlaaNumber
import Derived.Test.YtimmgajeflghlaaCut
import Derived.Test.YtimmgajeflghlaaLay
namespace Go.Proofs.Ytimmgajeflghlaa
open Go.RowKit

set_option maxHeartbeats 400000 in
/-- The number of m bytes from place p on, missing ones 0. -/
theorem refNumberAt (w : World) (B : Nat) (A : Option Addr) (cap : Nat) (zs : List Int) (p m : Nat) (hr : Rd w B .u8 A zs) (hb : ByteL zs) (hl : zs.length ≤ 4611686018427387904) (hp : p ≤ 2305843009213693952) (hm : m ≤ 2305843009213693952) :
    Calls Try.prog 18 #[.slice A zs.length cap, .int .i64 p, .int .i64 m] w fun e w' => e = .returned (.int .u64 (big 18446744073709551616 (pad (zs.drop p) m))) ∧ w = w' := by
  go_enter Try.func18, Try.ntmps18
  go_wp2
  go_loop [7, 8] (fun x i => ∃ k : Nat, k ≤ m ∧ i = .int .i64 ((p + k : Nat) : Int) ∧ x = .int .u64 (big 18446744073709551616 (pad (zs.drop p) k))) (fun _ i => p + m - (intOf i).toNat)
  case atStart => exact ⟨0, Nat.zero_le _, rfl, rfl⟩
  case round =>
    obtain ⟨k, hk, rfl, rfl⟩ := hrel
    have hmi : ((p + k : Nat) : Int) = (p : Int) + k := by simp
    by_cases hlt : k < m
    · have hx := (big_range 18446744073709551616 (pad (zs.drop p) k) (by decide)).1
      have hx1 := (big_range 18446744073709551616 (pad (zs.drop p) k) (by decide)).2
      have hg : (zs.drop p).getD k 0 = zs.getD (p + k) 0 := getD_drop zs p k
      by_cases hin : p + k < zs.length
      · obtain ⟨b, o, rfl, _, hc⟩ := hr.get hin
        have HS := Lib.hid ((mod_step _ _ _).trans (big_pad 18446744073709551616 (zs.drop p) k).symm)
        rw [hg] at HS
        have hb0 := (hb.get (p + k)).1
        have hb1 := (hb.get (p + k)).2
        clear hg hmi
        generalize hj : p + k = j at *
        generalize zs.getD j 0 = c at hc HS hb0 hb1
        have hjm : j < p + m := by omega
        have hjm' : (j : Int) < (p : Int) + m := by omega
        have HJ := Lib.hid hj
        clear hj
        go_wp2
        go_round
        case rel => exact ⟨k + 1, by omega, by rw [← HJ.out]; go_num, by simp only [IntKind.wrap_u64]; rw [HS.out]⟩
        case measure => simp [intOf]; omega
      · have h0 : (zs.drop p).getD k 0 = 0 := by rw [hg]; simp [List.getD, List.getElem?_eq_none (Nat.le_of_not_lt hin)]
        have HS := Lib.hid ((big_pad 18446744073709551616 (zs.drop p) k).symm)
        rw [h0] at HS
        clear h0 hg hmi
        generalize hj : p + k = j at *
        have hjm' : (j : Int) < (p : Int) + m := by omega
        have HJ := Lib.hid hj
        clear hj
        go_wp2
        go_round
        case rel => exact ⟨k + 1, by omega, by rw [← HJ.out]; go_num, by rw [IntKind.wrap_u64, ← HS.out, Int.add_zero]⟩
        case measure => simp [intOf]; omega
    · have : k = m := by omega
      subst this
      clear hmi
      have hjm' : ¬ ((p + k : Nat) : Int) < (p : Int) + k := by simp
      go_wp2
      go_ret
      exact ⟨rfl, rfl⟩

end Go.Proofs.Ytimmgajeflghlaa
