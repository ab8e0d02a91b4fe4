
/- Package item: ranged. -/
import Derived.Test.YtobolfnokjekcaaItemS
namespace Go.Proofs.Ytobolfnokjekcaa
open Go.RowKit

def theNaN : Int := 9221120237041090560
/-- Has an item a number that its kind can have? -/
def rangB (t : It) : Bool := if t.k = 7 then decide (t.n < 24 ∨ (32 ≤ t.n ∧ t.n ≤ 255)) else if t.k = 8 then !decide (FNan 11 52 t.n.toNat) || (t.n == theNaN) else true

set_option maxRecDepth 100000 in
set_option maxHeartbeats 4000000 in
theorem item_ranged (t : It) (A : Option Addr) (cap : Nat) (w : World) (hn0 : 0 ≤ t.n) (hn1 : t.n < 18446744073709551616) :
    Calls Try.prog 26 #[vI t A cap] w fun e w' => e = .returned (.bool (rangB t)) ∧ Below w.heap.size w w' := by
  obtain ⟨k, n, s, l⟩ := t
  obtain ⟨w1, hw1, b1, S⟩ := iblk1 w 25 #[.int .i64 k, .int .u64 n, .string s, .slice A l.length cap]
  obtain ⟨p0, p1, p2, p3, -⟩ := iblk b1
  have HS := Lib.hid S
  simp only [It.n] at hn0 hn1
  by_cases h8 : k = 8
  · subst h8
    have hnn : ((n.toNat : Nat) : Int) = n := by omega
    have C := fun w => float_NaN n.toNat (by omega) w
    rw [hnn] at C
    have hr : rangB (It.mk 8 n s l) = (!decide (FNan 11 52 n.toNat) || (n == theNaN)) := rfl
    rw [hr]
    clear hr
    generalize decide (FNan 11 52 n.toNat) = b at *
    have HC := Lib.hid (C w1)
    clear S b1 hnn C hn0 hn1
    unfold theNaN
    simp only [vI, It.k, It.n, It.s, It.l]
    go_enter Try.func26, Try.ntmps26
    cases b
    · go_wp2_with (go_at_call 32; refine HC.out.mono ?_; rintro e w2 ⟨rfl, hb2⟩; have HB2 := Lib.hid (HS.out.trans (hb2.mono HS.out.size)); clear hb2)
      go_ret
      exact ⟨rfl, HB2.out⟩
    · go_wp2_with (go_at_call 32; refine HC.out.mono ?_; rintro e w2 ⟨rfl, hb2⟩; have p1' := (hb2.cell (p := ⟨w.heap.size, 1, none⟩) (block_lt_of_cell p1)).trans p1; have HB2 := Lib.hid (HS.out.trans (hb2.mono HS.out.size)); clear hb2)
      go_ret
      exact ⟨rfl, HB2.out⟩
  · by_cases h7 : k = 7
    · subst h7
      have hr : rangB (It.mk 7 n s l) = decide (n < 24 ∨ (32 ≤ n ∧ n ≤ 255)) := rfl
      rw [hr]
      obtain ⟨r, hq⟩ : ∃ r, decide (n < 24 ∨ (32 ≤ n ∧ n ≤ 255)) = r := ⟨_, rfl⟩
      rw [hq]
      have HQ := Lib.hid hq
      clear hr S b1 hn1 h8 hq
      simp only [vI, It.k, It.n, It.s, It.l]
      go_enter Try.func26, Try.ntmps26
      by_cases h1 : n < 24
      · go_wp2_with fail
        all_goals go_ret
        all_goals refine ⟨?_, HS.out⟩
        all_goals (rw [← HQ.out, decide_eq_true (p := n < 24 ∨ (32 ≤ n ∧ n ≤ 255)) (by omega)]; rfl)
      · by_cases h2 : 32 ≤ n
        · by_cases h3 : n ≤ 255
          · go_wp2_with fail
            all_goals go_ret
            all_goals refine ⟨?_, HS.out⟩
            all_goals (rw [← HQ.out, decide_eq_true (p := n < 24 ∨ (32 ≤ n ∧ n ≤ 255)) (by omega)]; rfl)
          · go_wp2_with fail
            all_goals go_ret
            all_goals refine ⟨?_, HS.out⟩
            all_goals (rw [← HQ.out, decide_eq_false (p := n < 24 ∨ (32 ≤ n ∧ n ≤ 255)) (by omega)]; rfl)
        · go_wp2_with fail
          all_goals go_ret
          all_goals refine ⟨?_, HS.out⟩
          all_goals (rw [← HQ.out, decide_eq_false (p := n < 24 ∨ (32 ≤ n ∧ n ≤ 255)) (by omega)]; rfl)
    · have hr : rangB (It.mk k n s l) = true := by
        show (if k = 7 then _ else if k = 8 then _ else true) = true
        rw [if_neg h7, if_neg h8]
      rw [hr]
      have n7 : (k == 7) = false := by simp; omega
      have n8 : (k == 8) = false := by simp; omega
      clear hr S b1 hn1 h8 h7
      simp only [vI, It.k, It.n, It.s, It.l]
      go_enter Try.func26, Try.ntmps26
      go_wp2_with fail
      go_ret
      exact ⟨rfl, HS.out⟩
end Go.Proofs.Ytobolfnokjekcaa
