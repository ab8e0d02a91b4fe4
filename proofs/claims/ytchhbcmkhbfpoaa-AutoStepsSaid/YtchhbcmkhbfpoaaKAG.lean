/- Plain floats: what narrowing, widening and the document's bits come to. -/
import Derived.Test.YtchhbcmkhbfpoaaKAF
import Derived.Laws.BitsAllLaws
import Derived.Laws.Shifts
import Derived.Test.YtchhbcmkhbfpoaaRows
import Derived.Test.YtchhbcmkhbfpoaaKAA
import Derived.RegionTactic
import Derived.Deep.LoopGhost
import Derived.Deep.Cut
import Derived.Test.YtchhbcmkhbfpoaaKAB
import Derived.StillTailTactics
namespace Go.Proofs.Ytchhbcmkhbfpoaa
section
variable {W : Int} {E F O x y z : Nat}

theorem wide_small (h : Fm W E F O) (h8 : 925 ≤ O) (hw : Wide E F O y x) (hx : ¬ FNan 11 52 x) :
    (fex 11 52 x + (2 ^ (E - 1) - 1) ≥ 2 ^ E - 1 + 1023 → finf E F (fsg 11 52 x) = y) ∧
    (fex 11 52 x + (2 ^ (E - 1) - 1) ≤ 1023 → fsg 11 52 x * 2 ^ (E + F) + (ffr 52 x + 2 ^ 52) / 2 ^ (1024 - (2 ^ (E - 1) - 1) - fex 11 52 x) / 2 ^ (52 - F) = y) ∧
    (1023 < fex 11 52 x + (2 ^ (E - 1) - 1) → fex 11 52 x + (2 ^ (E - 1) - 1) < 2 ^ E - 1 + 1023 → fsg 11 52 x * 2 ^ (E + F) + (fex 11 52 x + (2 ^ (E - 1) - 1) - 1023) * 2 ^ F + ffr 52 x / 2 ^ (52 - F) = y) := by
  obtain ⟨hy, hx64, hw⟩ := hw
  have hys := f_split h hy
  rcases hw with ⟨_, a3⟩ | ⟨a1, a2, a3⟩ | ⟨a1, a2, a3, a4⟩
  · exact absurd (a3 ▸ nan_wide) hx
  · have i1 := inf_parts .double (f_small h y).1
    rw [← a3] at i1
    obtain ⟨_, i2, i3, i4⟩ := i1
    have := inf_of h hy a1 a2
    rw [i2, i3]
    refine ⟨fun _ => this.symm, fun hh => ?_, fun _ hh => ?_⟩ <;> (cases h <;> omega)
  · have hxs := f_small .double x
    have hsm := f_small h y
    have hnf := f_nf h y
    rw [a3]
    by_cases he : fex 11 52 x = 0
    · have e1 : fval 11 52 0 x = ffr 52 x := by unfold fval fnum fpow; rw [if_pos he, he]; simp
      rw [e1] at a4
      have hn0 : fnum E F y = 0 := by
        by_cases hn : fnum E F y = 0
        · exact hn
        · have h1 : 2 ^ 53 ≤ 2 ^ fpow E F O y := Nat.pow_le_pow_right (by decide) (by have := hnf.1; omega)
          have h2 : 1 * 2 ^ 53 ≤ fnum E F y * 2 ^ fpow E F O y := Nat.mul_le_mul (by omega) h1
          unfold fval at a4
          omega
      have hf0 : ffr 52 x = 0 := by unfold fval at a4; rw [hn0] at a4; omega
      have hy0 : fex E F y = 0 ∧ ffr F y = 0 := by
        unfold fnum at hn0
        have := Nat.two_pow_pos F
        split at hn0 <;> omega
      rw [hy0.1, hy0.2] at hys
      rw [he, hf0]
      refine ⟨fun hh => ?_, fun _ => ?_, fun hh => ?_⟩
      · cases h <;> omega
      · have h1 : (0 + 2 ^ 52) / 2 ^ (1024 - (2 ^ (E - 1) - 1) - 0) = 0 := Nat.div_eq_of_lt (by
          rw [Nat.zero_add]; exact Nat.pow_lt_pow_right (by decide) (by cases h <;> omega))
        rw [h1, Nat.zero_div]
        omega
      · cases h <;> omega
    · have e1 : fval 11 52 0 x = (ffr 52 x + 2 ^ 52) * 2 ^ (fex 11 52 x - 1) := by unfold fval fnum fpow; rw [if_neg he]; rfl
      rw [e1] at a4
      by_cases hY : 2 ^ F ≤ fnum E F y
      · have hey : fex E F y ≠ 0 := fun h0 => by unfold fnum at hY; rw [if_pos h0] at hY; omega
        have hyn : fnum E F y = ffr F y + 2 ^ F := by unfold fnum; rw [if_neg hey]
        have hq : fpow E F O y = fex E F y - 1 + O := rfl
        have hF : F ≤ 52 ∧ 52 - F ≤ O := by cases h <;> omega
        have hv : fval E F O y = (fnum E F y * 2 ^ (52 - F)) * 2 ^ (fpow E F O y - (52 - F)) := by
          unfold fval
          rw [Nat.mul_assoc, ← Nat.pow_add]
          congr 2
          omega
        have hp : 2 ^ F * 2 ^ (52 - F) = 2 ^ 52 := by rw [← Nat.pow_add]; congr 1; omega
        have n1 : FNF 52 0 (fnum E F y * 2 ^ (52 - F)) (fpow E F O y - (52 - F)) := by
          refine ⟨Nat.zero_le _, ?_, Or.inl ?_⟩
          · have := Nat.mul_lt_mul_of_pos_right hnf.2.1 (Nat.two_pow_pos (52 - F))
            rw [Nat.pow_succ, Nat.mul_right_comm, hp] at this
            omega
          · have := Nat.mul_le_mul_right (2 ^ (52 - F)) hY
            omega
        have n2 : FNF 52 0 (ffr 52 x + 2 ^ 52) (fex 11 52 x - 1) := ⟨Nat.zero_le _, by omega, Or.inl (by omega)⟩
        obtain ⟨c1, c2⟩ := nf_same n2 n1 (a4.trans hv)
        rw [hyn] at c1
        refine ⟨fun hh => ?_, fun hh => ?_, fun h1 h2 => ?_⟩ <;> (cases h <;> omega)
      · have hey : fex E F y = 0 := by
          by_cases h0 : fex E F y = 0
          · exact h0
          · unfold fnum at hY; rw [if_neg h0] at hY; omega
        have hyn : fnum E F y = ffr F y := by unfold fnum; rw [if_pos hey]
        have hq : fpow E F O y = O := by unfold fpow; rw [hey]; omega
        have hv : fval E F O y = ffr F y * 2 ^ O := by unfold fval; rw [hyn, hq]
        rw [hv] at a4
        have hlt : fex 11 52 x - 1 < O := by
          refine Nat.lt_of_not_le fun hle => ?_
          have : fex 11 52 x - 1 = (fex 11 52 x - 1 - O) + O := by omega
          rw [this, Nat.pow_add, ← Nat.mul_assoc] at a4
          have e2 := Nat.eq_of_mul_eq_mul_right (Nat.two_pow_pos O) a4
          have := Nat.mul_le_mul (show 2 ^ 52 ≤ ffr 52 x + 2 ^ 52 by omega) (Nat.two_pow_pos (fex 11 52 x - 1 - O))
          have hF : 2 ^ F ≤ 2 ^ 52 := Nat.pow_le_pow_right (by decide) (by cases h <;> omega)
          omega
        have hk : ∃ k, O = k + (fex 11 52 x - 1) := ⟨O - (fex 11 52 x - 1), by omega⟩
        obtain ⟨k, hk⟩ := hk
        rw [hk, Nat.pow_add, ← Nat.mul_assoc] at a4
        have e2 := Nat.eq_of_mul_eq_mul_right (Nat.two_pow_pos _) a4
        have hkF : 52 - F < k := by
          refine Nat.lt_of_not_le fun hle => ?_
          have h1 : 2 ^ k ≤ 2 ^ (52 - F) := Nat.pow_le_pow_right (by decide) hle
          have h2 : ffr F y * 2 ^ k ≤ ffr F y * 2 ^ (52 - F) := Nat.mul_le_mul_left _ h1
          have h3 := Nat.mul_lt_mul_of_pos_right hsm.2.2 (Nat.two_pow_pos (52 - F))
          have hp : 2 ^ F * 2 ^ (52 - F) = 2 ^ 52 := by rw [← Nat.pow_add]; congr 1; cases h <;> omega
          omega
        have hd : (ffr 52 x + 2 ^ 52) / 2 ^ (1024 - (2 ^ (E - 1) - 1) - fex 11 52 x) / 2 ^ (52 - F) = ffr F y := by
          rw [Nat.div_div_eq_div_mul, ← Nat.pow_add, e2]
          have : 1024 - (2 ^ (E - 1) - 1) - fex 11 52 x + (52 - F) = k := by cases h <;> omega
          rw [this]
          exact Nat.mul_div_cancel _ (Nat.two_pow_pos k)
        rw [hd]
        rw [hey] at hys
        refine ⟨fun hh => ?_, fun hh => ?_, fun h1 h2 => ?_⟩
        · cases h <;> omega
        · omega
        · cases h <;> omega

/-- A finite float is widened. -/
theorem widen_normal (h : Fm W E F O) (hy : y < 2 ^ (1 + E + F)) (h1 : 0 < fex E F y) (h2 : fex E F y < 2 ^ E - 1) :
    Wide E F O y (fsg E F y * 2 ^ 63 + (fex E F y + (1023 - (2 ^ (E - 1) - 1))) * 2 ^ 52 + ffr F y * 2 ^ (52 - F)) := by
  have hsm := f_small h y
  have hE : fex E F y + (1023 - (2 ^ (E - 1) - 1)) < 2 ^ 11 - 1 := by cases h <;> omega
  have hF : ffr F y * 2 ^ (52 - F) < 2 ^ 52 := by cases h <;> omega
  obtain ⟨p1, p2, p3, p4⟩ := f_parts .double hsm.1 (show fex E F y + (1023 - (2 ^ (E - 1) - 1)) < 2 ^ 11 by omega) hF
  simp only [show 11 + 52 = 63 from rfl] at p1 p2 p3 p4
  refine ⟨hy, p1, Or.inr (Or.inr ⟨h2, by rw [p3]; exact hE, p2, ?_⟩)⟩
  unfold fval fnum fpow
  rw [p3, p4, if_neg (by omega), if_neg (by omega), Nat.add_zero]
  have e1 : ffr F y * 2 ^ (52 - F) + 2 ^ 52 = (ffr F y + 2 ^ F) * 2 ^ (52 - F) := by cases h <;> omega
  rw [e1, Nat.mul_assoc, ← Nat.pow_add]
  congr 2
  cases h <;> omega
theorem widen_zero (h : Fm W E F O) (hy : y < 2 ^ (1 + E + F)) (h1 : fex E F y = 0) (h2 : ffr F y = 0) : Wide E F O y (fsg E F y * 2 ^ 63) := by
  have hsm := f_small h y
  obtain ⟨p1, p2, p3, p4⟩ := f_parts .double hsm.1 (show 0 < 2 ^ 11 by decide) (show 0 < 2 ^ 52 by decide)
  simp only [show 11 + 52 = 63 from rfl, Nat.zero_mul, Nat.add_zero] at p1 p2 p3 p4
  refine ⟨hy, p1, Or.inr (Or.inr ⟨?_, by rw [p3]; decide, p2, ?_⟩)⟩
  · rw [h1]; cases h <;> decide
  · unfold fval fnum
    rw [p3, p4, h1, h2]
    simp
theorem widen_low (h : Fm W E F O) (h8 : 925 ≤ O) (hy : y < 2 ^ (1 + E + F)) (h1 : fex E F y = 0) (k : Nat) (h2 : 2 ^ F ≤ ffr F y * 2 ^ k) (h3 : ffr F y * 2 ^ k < 2 ^ (F + 1)) (h4 : k ≤ F) :
    Wide E F O y (fsg E F y * 2 ^ 63 + (1024 - (2 ^ (E - 1) - 1) - k) * 2 ^ 52 + (ffr F y * 2 ^ k - 2 ^ F) * 2 ^ (52 - F)) := by
  have hsm := f_small h y
  have hE : 1024 - (2 ^ (E - 1) - 1) - k < 2 ^ 11 - 1 := by cases h <;> omega
  have hE0 : 1024 - (2 ^ (E - 1) - 1) - k ≠ 0 := by cases h <;> omega
  have hF : (ffr F y * 2 ^ k - 2 ^ F) * 2 ^ (52 - F) < 2 ^ 52 := by cases h <;> omega
  obtain ⟨p1, p2, p3, p4⟩ := f_parts .double hsm.1 (show 1024 - (2 ^ (E - 1) - 1) - k < 2 ^ 11 by omega) hF
  simp only [show 11 + 52 = 63 from rfl] at p1 p2 p3 p4
  refine ⟨hy, p1, Or.inr (Or.inr ⟨?_, by rw [p3]; exact hE, p2, ?_⟩)⟩
  · rw [h1]; cases h <;> decide
  unfold fval fnum fpow
  rw [p3, p4, if_neg hE0, if_pos h1, h1, Nat.add_zero]
  have e1 : (ffr F y * 2 ^ k - 2 ^ F) * 2 ^ (52 - F) + 2 ^ 52 = ffr F y * 2 ^ k * 2 ^ (52 - F) := by cases h <;> omega
  rw [e1, Nat.mul_assoc, Nat.mul_assoc, ← Nat.pow_add, ← Nat.pow_add]
  congr 2
  cases h <;> omega
theorem widen_self (hx : x < 2 ^ 64) (hn : ¬ FNan 11 52 x) : Wide 11 52 0 x x := by
  refine ⟨hx, hx, ?_⟩
  by_cases he : fex 11 52 x = 2 ^ 11 - 1
  · have hf : ffr 52 x = 0 := Decidable.byContradiction fun h => hn ⟨he, h⟩
    exact Or.inr (Or.inl ⟨he, hf, inf_of .double hx he hf⟩)
  · have := (f_small .double x).2.1
    exact Or.inr (Or.inr ⟨by omega, by omega, rfl, rfl⟩)
theorem widen_inf (h : Fm W E F O) (hy : y < 2 ^ (1 + E + F)) (h1 : fex E F y = 2 ^ E - 1) (h2 : ffr F y = 0) : Wide E F O y (finf 11 52 (fsg E F y)) :=
  ⟨hy, (inf_parts .double (f_small h y).1).1, Or.inr (Or.inl ⟨h1, h2, rfl⟩)⟩
theorem widen_nan (hy : y < 2 ^ (1 + E + F)) (h1 : FNan E F y) : Wide E F O y 9221120237041090560 := ⟨hy, by decide, Or.inl ⟨h1, rfl⟩⟩

/-- A number below 2^F, not 0, is brought up. -/
theorem bring (F m : Nat) (h0 : 0 < m) (hm : m < 2 ^ F) : ∃ k, k ≤ F ∧ 2 ^ F ≤ m * 2 ^ k ∧ m * 2 ^ k < 2 ^ (F + 1) := by
  have : ∀ d m, 0 < m → m < 2 ^ F → 2 ^ F ≤ m * 2 ^ d → ∃ k, k ≤ d ∧ 2 ^ F ≤ m * 2 ^ k ∧ m * 2 ^ k < 2 ^ (F + 1) := by
    intro d
    induction d with
    | zero => intro m _ h1 h2; omega
    | succ d ih =>
      intro m h0 h1 h2
      by_cases h3 : 2 ^ F ≤ m * 2
      · exact ⟨1, by omega, by omega, by rw [Nat.pow_succ 2 F]; omega⟩
      · obtain ⟨k, a, b, c⟩ := ih (m * 2) (by omega) (by omega) (by rw [Nat.pow_succ] at h2; rw [Nat.mul_assoc, Nat.mul_comm 2]; exact h2)
        refine ⟨k + 1, by omega, ?_, ?_⟩ <;> rw [Nat.pow_succ, Nat.mul_comm (2 ^ k), ← Nat.mul_assoc] <;> assumption
  refine this F m h0 hm ?_
  have := Nat.mul_le_mul_right (2 ^ F) h0
  omega
/-- Every form has a wider one. -/
theorem wide_some (h : Fm W E F O) (hy : y < 2 ^ (1 + E + F)) : ∃ x, Wide E F O y x := by
  by_cases h8 : 925 ≤ O
  · by_cases he : fex E F y = 2 ^ E - 1
    · by_cases hf : ffr F y = 0
      · exact ⟨_, widen_inf h hy he hf⟩
      · exact ⟨_, widen_nan hy ⟨he, hf⟩⟩
    have hsm := f_small h y
    by_cases h0 : fex E F y = 0
    · by_cases hf : ffr F y = 0
      · exact ⟨_, widen_zero h hy h0 hf⟩
      · obtain ⟨k, a, b, c⟩ := bring F (ffr F y) (by omega) hsm.2.2
        exact ⟨_, widen_low h h8 hy h0 k b c a⟩
    · exact ⟨_, widen_normal h hy (by omega) (by omega)⟩
  · obtain ⟨rfl, rfl, rfl⟩ : E = 11 ∧ F = 52 ∧ O = 0 := by cases h <;> omega
    by_cases hn : FNan 11 52 y
    · exact ⟨_, widen_nan hy hn⟩
    · exact ⟨_, widen_self hy hn⟩

/-- What the document's bits come to, of a number that is odd. -/
def BitsTo (E F O s m q z : Nat) (ok : Bool) : Prop :=
  (ok = true ∧ z < 2 ^ (1 + E + F) ∧ fex E F z < 2 ^ E - 1 ∧ fsg E F z = s ∧ fval E F O z = m * 2 ^ q) ∨
    (ok = false ∧ z = 0 ∧ ∀ y, y < 2 ^ (1 + E + F) → fex E F y < 2 ^ E - 1 → fval E F O y ≠ m * 2 ^ q)
theorem bits_low (h : Fm W E F O) {s m q : Nat} (hm : m % 2 = 1) (hq : q < O) : BitsTo E F O s m q 0 false := by
  refine Or.inr ⟨rfl, rfl, fun y hy _ e => ?_⟩
  have hn := (f_nf h y).1
  unfold fval at e
  have : fpow E F O y = (fpow E F O y - q - 1) + 1 + q := by omega
  rw [this, Nat.pow_add, ← Nat.mul_assoc] at e
  have e2 := Nat.eq_of_mul_eq_mul_right (Nat.two_pow_pos q) e
  rw [Nat.pow_succ, ← Nat.mul_assoc] at e2
  omega
theorem bits_big (h : Fm W E F O) {s m q : Nat} (hm : m % 2 = 1) (hb : 2 ^ (F + 1) ≤ m) : BitsTo E F O s m q 0 false := by
  refine Or.inr ⟨rfl, rfl, fun y hy _ e => ?_⟩
  have hn := (f_nf h y).2.1
  unfold fval at e
  by_cases hlt : q < fpow E F O y
  · have : fpow E F O y = (fpow E F O y - q - 1) + 1 + q := by omega
    rw [this, Nat.pow_add, ← Nat.mul_assoc] at e
    have e2 := Nat.eq_of_mul_eq_mul_right (Nat.two_pow_pos q) e
    rw [Nat.pow_succ, ← Nat.mul_assoc] at e2
    omega
  · have : q = (q - fpow E F O y) + fpow E F O y := by omega
    rw [this, Nat.pow_add, ← Nat.mul_assoc] at e
    have e2 := Nat.eq_of_mul_eq_mul_right (Nat.two_pow_pos _) e
    have := Nat.mul_le_mul_left m (Nat.two_pow_pos (q - fpow E F O y))
    omega
theorem bits_over (h : Fm W E F O) {s m q m' q' : Nat} (hn : FNF F O m' q') (hv : m' * 2 ^ q' = m * 2 ^ q) (hm : 2 ^ F ≤ m') (ho : 2 ^ E - 1 ≤ q' - O + 1) : BitsTo E F O s m q 0 false := by
  refine Or.inr ⟨rfl, rfl, fun y hy hf e => ?_⟩
  obtain ⟨c1, c2⟩ := nf_same (f_nf h y) hn (e.trans hv.symm)
  have hy1 := f_small h y
  unfold fnum at c1
  unfold fpow at c2
  split at c1 <;> omega
theorem bits_fits (h : Fm W E F O) {s m q m' q' : Nat} (hs : s < 2) (hn : FNF F O m' q') (hv : m' * 2 ^ q' = m * 2 ^ q) (ho : q' - O + 1 < 2 ^ E - 1) : BitsTo E F O s m q (fenc E F O s m' q') true := by
  obtain ⟨p1, p2, p3, p4, p5⟩ := f_dec h hs hn ho
  refine Or.inl ⟨rfl, p1, p3, p2, ?_⟩
  unfold fval
  rw [p4, p5, hv]

/-- What the document's value comes to: a sign, a number that is odd, or 0, its power, the kind. -/
def ValueTo (E F O x s m q k : Nat) : Prop :=
  (k = 2 ∧ FNan E F x ∧ s = 0) ∨ (k = 1 ∧ fex E F x = 2 ^ E - 1 ∧ ffr F x = 0 ∧ s = fsg E F x ∧ m = 0) ∨
    (k = 0 ∧ fex E F x < 2 ^ E - 1 ∧ s = fsg E F x ∧ ((m = 0 ∧ fval E F O x = 0) ∨ (m % 2 = 1 ∧ fval E F O x = m * 2 ^ q)))
theorem value_zero {s q k : Nat} (hv : ValueTo E F O x s 0 q k) (hk : k = 0) : fex E F x = 0 ∧ ffr F x = 0 := by
  rcases hv with ⟨a, _⟩ | ⟨a, _⟩ | ⟨_, _, _, ⟨_, b⟩ | ⟨b, _⟩⟩
  · omega
  · omega
  · have hp := Nat.two_pow_pos (fpow E F O x)
    have h0 : fnum E F x = 0 := by
      unfold fval at b
      rcases Nat.mul_eq_zero.1 b with h0 | h0
      · exact h0
      · omega
    unfold fnum at h0
    have := Nat.two_pow_pos F
    split at h0 <;> omega
  · omega
/-- The document's widening. -/
theorem bits_wide (h : Fm W E F O) {s m q k : Nat} {ok : Bool} (hy : y < 2 ^ (1 + E + F)) (hv : ValueTo E F O y s m q k) (hk : k = 0) (hm : m ≠ 0) (hb : BitsTo 11 52 0 s m q z ok) : Wide E F O y z := by
  rcases hv with ⟨a, _⟩ | ⟨a, _⟩ | ⟨_, a, b, ⟨c, _⟩ | ⟨c, d⟩⟩
  · omega
  · omega
  · omega
  · obtain ⟨x, hx⟩ := wide_some h hy
    obtain ⟨x1, x2, x3⟩ := hx
    rcases x3 with ⟨⟨n1, n2⟩, n3⟩ | ⟨n1, n2, n3⟩ | ⟨n1, n2, n3, n4⟩
    · omega
    · omega
    · rcases hb with ⟨_, b1, b2, b3, b4⟩ | ⟨_, _, b1⟩
      · exact ⟨hy, b1, Or.inr (Or.inr ⟨a, b2, b3.trans b, b4.trans d.symm⟩)⟩
      · exact absurd (n4.trans d) (b1 x x2 (by omega))
/-- The document's narrowing. -/
theorem bits_narrow (h : Fm W E F O) {s m q k : Nat} {ok : Bool} (hx : x < 2 ^ 64) (hv : ValueTo 11 52 0 x s m q k) (hk : k = 0) (hm : m ≠ 0) (hb : BitsTo E F O s m q z ok) :
    (ok = true ∧ Wide E F O z x) ∨ (ok = false ∧ ∀ y, ¬ Wide E F O y x) := by
  rcases hv with ⟨a, _⟩ | ⟨a, _⟩ | ⟨_, a, b, ⟨c, _⟩ | ⟨c, d⟩⟩
  · omega
  · omega
  · omega
  · rcases hb with ⟨h1, b1, b2, b3, b4⟩ | ⟨h1, _, b1⟩
    · exact Or.inl ⟨h1, b1, hx, Or.inr (Or.inr ⟨b2, a, b.symm.trans b3.symm, d.trans b4.symm⟩)⟩
    · refine Or.inr ⟨h1, fun y hw => ?_⟩
      obtain ⟨y1, y2, y3⟩ := hw
      rcases y3 with ⟨_, n3⟩ | ⟨n1, n2, n3⟩ | ⟨n1, n2, n3, n4⟩
      · have := nan_wide.1
        rw [← n3] at this
        omega
      · have := (inf_parts .double (f_small h y).1).2.2.1
        rw [← n3] at this
        omega
      · exact b1 y y1 n1 (n4.symm.trans d)
end
end Go.Proofs.Ytchhbcmkhbfpoaa

/- Plain numbers: a number of B bits turned to the right by k. -/
namespace Go.Proofs.Ytchhbcmkhbfpoaa

/-- x of B bits, turned to the right by k (0 to B - 1). -/
def turned (B : Nat) (x : Int) (k : Nat) : Int := x / 2 ^ k + x % 2 ^ k * 2 ^ (B - k)

theorem or_add (a b : Int) (n : Nat) (ha : 0 ≤ a) (ha' : a < 2 ^ n) (hb : 0 ≤ b) : ((a.toNat ||| (b * 2 ^ n).toNat : Nat) : Int) = a + b * 2 ^ n := by
  obtain ⟨A, rfl⟩ := Int.eq_ofNat_of_zero_le ha
  obtain ⟨C, rfl⟩ := Int.eq_ofNat_of_zero_le hb
  have e : ((C : Int) * 2 ^ n).toNat = C * 2 ^ n := by
    have : ((C : Int) * 2 ^ n) = ((C * 2 ^ n : Nat) : Int) := by simp
    rw [this, Int.toNat_natCast]
  rw [e, Int.toNat_natCast]
  have hA : A < 2 ^ n := by exact_mod_cast ha'
  rw [Nat.or_comm, Nat.mul_comm, ← Nat.two_pow_add_eq_or_of_lt hA]
  push_cast
  rw [Int.mul_comm, Int.add_comm]

theorem shl_mod (B : Nat) (x : Int) (k : Nat) (hk : k ≤ B) : x * 2 ^ (B - k) % 2 ^ B = x % 2 ^ k * 2 ^ (B - k) := by
  have e : (2 : Int) ^ B = 2 ^ k * 2 ^ (B - k) := by rw [← Int.pow_add]; congr 1; omega
  rw [e, Int.mul_comm x, Int.mul_comm (2 ^ k), Int.mul_emod_mul_of_pos _ _ (Int.pow_pos (by decide)), Int.mul_comm]

theorem turned_range (B : Nat) (x : Int) (k : Nat) (hk : k ≤ B) (h0 : 0 ≤ x) (h1 : x < 2 ^ B) : 0 ≤ turned B x k ∧ turned B x k < 2 ^ B := by
  have hp : (0 : Int) < 2 ^ k := Int.pow_pos (by decide)
  have hq : (0 : Int) < 2 ^ (B - k) := Int.pow_pos (by decide)
  have e : (2 : Int) ^ B = 2 ^ k * 2 ^ (B - k) := by rw [← Int.pow_add]; congr 1; omega
  have hd : x / 2 ^ k < 2 ^ (B - k) := Int.ediv_lt_of_lt_mul hp (by rw [Int.mul_comm, ← e]; exact h1)
  have hd0 : 0 ≤ x / 2 ^ k := Int.ediv_nonneg h0 (Int.le_of_lt hp)
  have hm0 : 0 ≤ x % 2 ^ k := Int.emod_nonneg _ (by omega)
  have hm1 : x % 2 ^ k < 2 ^ k := Int.emod_lt_of_pos _ hp
  unfold turned
  refine ⟨Int.add_nonneg hd0 (Int.mul_nonneg hm0 (Int.le_of_lt hq)), ?_⟩
  have hle : x % 2 ^ k * 2 ^ (B - k) ≤ (2 ^ k - 1) * 2 ^ (B - k) := Int.mul_le_mul_of_nonneg_right (by omega) (Int.le_of_lt hq)
  rw [Int.sub_mul, ← e] at hle
  omega

/-- What the code's last line makes is the turned number. -/
theorem turned_or (B : Nat) (x : Int) (k : Nat) (hk : k ≤ B) (h0 : 0 ≤ x) (h1 : x < 2 ^ B) :
    (((x / 2 ^ k).toNat ||| (x * 2 ^ (B - k) % 2 ^ B).toNat : Nat) : Int) = turned B x k := by
  have hp : (0 : Int) < 2 ^ k := Int.pow_pos (by decide)
  have e : (2 : Int) ^ B = 2 ^ k * 2 ^ (B - k) := by rw [← Int.pow_add]; congr 1; omega
  rw [shl_mod B x k hk]
  exact or_add _ _ _ (Int.ediv_nonneg h0 (Int.le_of_lt hp)) (Int.ediv_lt_of_lt_mul hp (by rw [Int.mul_comm, ← e]; exact h1)) (Int.emod_nonneg _ (by omega))

theorem turned_zero (B : Nat) (x : Int) : turned B x 0 = x := by
  simp [turned, Int.emod_one]

/-- Turned back it is as it was. -/
theorem turned_back (B : Nat) (x : Int) (k : Nat) (hk : k ≤ B) (h0 : 0 ≤ x) (h1 : x < 2 ^ B) : turned B (turned B x k) (B - k) = x := by
  have hp : (0 : Int) < 2 ^ k := Int.pow_pos (by decide)
  have hq : (0 : Int) < 2 ^ (B - k) := Int.pow_pos (by decide)
  have e : (2 : Int) ^ B = 2 ^ k * 2 ^ (B - k) := by rw [← Int.pow_add]; congr 1; omega
  have hd : x / 2 ^ k < 2 ^ (B - k) := Int.ediv_lt_of_lt_mul hp (by rw [Int.mul_comm, ← e]; exact h1)
  have hd0 : 0 ≤ x / 2 ^ k := Int.ediv_nonneg h0 (Int.le_of_lt hp)
  show (x / 2 ^ k + x % 2 ^ k * 2 ^ (B - k)) / 2 ^ (B - k) + (x / 2 ^ k + x % 2 ^ k * 2 ^ (B - k)) % 2 ^ (B - k) * 2 ^ (B - (B - k)) = x
  rw [Int.add_mul_ediv_right _ _ (by omega), Int.ediv_eq_zero_of_lt hd0 hd, Int.add_mul_emod_self_right, Int.emod_eq_of_lt hd0 hd]
  have e2 : B - (B - k) = k := by omega
  rw [e2, Int.zero_add]
  have := Int.emod_add_mul_ediv x (2 ^ k)
  rw [Int.mul_comm] at this
  omega
end Go.Proofs.Ytchhbcmkhbfpoaa

/- The contracts of the turning functions. -/
namespace Go.Proofs.Ytchhbcmkhbfpoaa
open Go.ChangeShapes Go.WideShapes Go.ChangeAt Go.RowKit

theorem wrap_rem32 (n : Int) : (IntKind.u64.wrap n).tmod 32 = ((n % 32).toNat : Int) := by
  have := wrap_u64_nonneg n
  rw [Int.tmod_eq_emod_of_nonneg this, IntKind.wrap_u64]; omega
theorem wrap_rem64 (n : Int) : (IntKind.u64.wrap n).tmod 64 = ((n % 64).toNat : Int) := by
  have := wrap_u64_nonneg n
  rw [Int.tmod_eq_emod_of_nonneg this, IntKind.wrap_u64]; omega
theorem or_turned32 (x : Int) (k : Nat) (hk : k ≤ 32) (h0 : 0 ≤ x) (h1 : x < 4294967296) :
    bits BinOp.or IntKind.u32 (x / 2 ^ k) (x * 2 ^ (32 - k) % 4294967296) = turned 32 x k := by
  have hp : (0 : Int) < 2 ^ k := Int.pow_pos (by decide)
  have a0 : 0 ≤ x / 2 ^ k := Int.ediv_nonneg h0 (Int.le_of_lt hp)
  have a1 : x / 2 ^ k ≤ x := Int.ediv_le_self _ h0
  rw [u32_or _ _ a0 (by omega) (by omega) (by omega)]
  exact turned_or 32 x k hk h0 h1
theorem or_turned64 (x : Int) (k : Nat) (hk : k ≤ 64) (h0 : 0 ≤ x) (h1 : x < 18446744073709551616) :
    bits BinOp.or IntKind.u64 (x / 2 ^ k) (x * 2 ^ (64 - k) % 18446744073709551616) = turned 64 x k := by
  have hp : (0 : Int) < 2 ^ k := Int.pow_pos (by decide)
  have a0 : 0 ≤ x / 2 ^ k := Int.ediv_nonneg h0 (Int.le_of_lt hp)
  have a1 : x / 2 ^ k ≤ x := Int.ediv_le_self _ h0
  rw [u64_or _ _ a0 (by omega) (by omega) (by omega)]
  exact turned_or 64 x k hk h0 h1

theorem right64 (x n : Int) (h0 : 0 ≤ x) (h1 : x < 18446744073709551616) (w : World) :
    Calls Try.prog 92 #[.int .u64 x, .int .i64 n, .int .i64 64] w fun e w' => e = .returned (.int .u64 (turned 64 x (n % 64).toNat)) ∧ w = w' := by
  have hk := wrap_rem64 n
  have hlt : (n % 64).toNat < 64 := by omega
  generalize (n % 64).toNat = k at *
  have H := Lib.hid (or_turned64 x k (by omega) h0 h1)
  go_enter Try.func92, Try.ntmps92
  go_wp2
  go_ret
  exact ⟨ret_num H.out, rfl⟩
theorem Right64 (x n : Int) (h0 : 0 ≤ x) (h1 : x < 18446744073709551616) (w : World) :
    Calls Try.prog 84 #[.int .u64 x, .int .i64 n] w fun e w' => e = .returned (.int .u64 (turned 64 x (n % 64).toNat)) ∧ w = w' := by
  go_enter Try.func84, Try.ntmps84
  go_wp2_with (go_at_call 92; refine (right64 _ _ h0 h1 _).mono ?_; rintro e w' ⟨rfl, rfl⟩)
  go_ret
  exact ⟨rfl, rfl⟩

theorem ref_rem32 (n : Int) : ((n.tmod 32) + 32).tmod 32 = ((n % 32).toNat : Int) ∧ -32 < n.tmod 32 ∧ n.tmod 32 < 32 := by
  have h := Int.tmod_eq_emod (a := n) (b := 32)
  have hn : ((32 : Int).natAbs : Int) = 32 := rfl
  have hs : -32 < n.tmod 32 ∧ n.tmod 32 < 32 := by split at h <;> omega
  refine ⟨?_, hs⟩
  rw [Int.tmod_eq_emod_of_nonneg (by omega : 0 ≤ n.tmod 32 + 32)]
  split at h <;> omega
theorem back_num32 (m k : Int) (x : Int) (h0 : 0 ≤ x) (h1 : x < 4294967296) (hk : k = -m) : turned 32 (turned 32 x (m % 32).toNat) (k % 32).toNat = x := by
  subst hk
  by_cases hz : m % 32 = 0
  · have e1 : (m % 32).toNat = 0 := by omega
    have e2 : (-m % 32).toNat = 0 := by omega
    rw [e1, e2, turned_zero, turned_zero]
  · have e2 : (-m % 32).toNat = 32 - (m % 32).toNat := by omega
    rw [e2]
    exact turned_back 32 x _ (by omega) h0 h1
theorem ref_rem64 (n : Int) : ((n.tmod 64) + 64).tmod 64 = ((n % 64).toNat : Int) ∧ -64 < n.tmod 64 ∧ n.tmod 64 < 64 := by
  have h := Int.tmod_eq_emod (a := n) (b := 64)
  have hn : ((64 : Int).natAbs : Int) = 64 := rfl
  have hs : -64 < n.tmod 64 ∧ n.tmod 64 < 64 := by split at h <;> omega
  refine ⟨?_, hs⟩
  rw [Int.tmod_eq_emod_of_nonneg (by omega : 0 ≤ n.tmod 64 + 64)]
  split at h <;> omega
theorem back_num64 (m k : Int) (x : Int) (h0 : 0 ≤ x) (h1 : x < 18446744073709551616) (hk : k = -m) : turned 64 (turned 64 x (m % 64).toNat) (k % 64).toNat = x := by
  subst hk
  by_cases hz : m % 64 = 0
  · have e1 : (m % 64).toNat = 0 := by omega
    have e2 : (-m % 64).toNat = 0 := by omega
    rw [e1, e2, turned_zero, turned_zero]
  · have e2 : (-m % 64).toNat = 64 - (m % 64).toNat := by omega
    rw [e2]
    exact turned_back 64 x _ (by omega) h0 h1
/-- Turned back it is as it was. -/
theorem Back64 (x m : Int) (h0 : 0 ≤ x) (h1 : x < 18446744073709551616) (w : World) :
    Calls Try.prog 84 #[.int .u64 (turned 64 x (m % 64).toNat), .int .i64 (-m)] w fun e w' => e = .returned (.int .u64 x) ∧ w = w' := by
  have hr := turned_range 64 x (m % 64).toNat (by omega) h0 h1
  refine (Right64 _ _ hr.1 hr.2 w).mono ?_
  rintro e w' ⟨rfl, rfl⟩
  exact ⟨ret_num (back_num64 m _ x h0 h1 rfl), rfl⟩
end Go.Proofs.Ytchhbcmkhbfpoaa

/- A loop in a great frame: what the body may write stands behind ONE function letter, not behind a letter each. -/
namespace Go.Proofs.Ytchhbcmkhbfpoaa
open Go.RowKit

/-- Slot k of a frame. -/
def nth : List Value → Nat → Value
  | [], _ => undef
  | x :: _, 0 => x
  | _ :: xs, k + 1 => nth xs k
/-- The frame with the marked slots, from k on, read from t. -/
def mask (t : Nat → Value) : Nat → List Bool → List Value → List Value
  | _, _, [] => []
  | _, [], x :: xs => x :: xs
  | k, true :: bs, _ :: xs => t k :: mask t (k + 1) bs xs
  | k, false :: bs, x :: xs => x :: mask t (k + 1) bs xs
/-- The frame's slots that aren't marked. -/
def keep : List Bool → List Value → List Value
  | _, [] => []
  | [], x :: xs => x :: xs
  | true :: bs, _ :: xs => undef :: keep bs xs
  | false :: bs, x :: xs => x :: keep bs xs
theorem mask_keep (T : Nat → Value) : ∀ (bs : List Bool) (k : Nat) (l l' : List Value), (∀ i, i < l'.length → T (k + i) = nth l' i) → keep bs l' = keep bs l → l' = mask T k bs l
  | bs, k, [], l', _, h => by
    cases l' with
    | nil => cases bs <;> rfl
    | cons y ys =>
      cases bs with
      | nil => simp [keep] at h
      | cons b bs => cases b <;> simp [keep] at h
  | [], k, x :: xs, l', _, h => by
    cases l' with
    | nil => simp [keep] at h
    | cons y ys => simpa [keep, mask] using h
  | b :: bs, k, x :: xs, l', hT, h => by
    cases l' with
    | nil => cases b <;> simp [keep] at h
    | cons y ys =>
      have hT' : ∀ i, i < ys.length → T (k + 1 + i) = nth ys i := fun i hi => by
        have := hT (i + 1) (by simp; omega)
        rw [show k + 1 + i = k + (i + 1) by omega, this]
        rfl
      have h0 : T k = y := hT 0 (by simp)
      cases b with
      | true =>
        simp only [keep, List.cons.injEq, true_and] at h
        simp only [mask, h0, List.cons.injEq, true_and]
        exact mask_keep T bs (k + 1) xs ys hT' h
      | false =>
        simp only [keep, List.cons.injEq] at h
        simp only [mask, h.1, List.cons.injEq, true_and]
        exact mask_keep T bs (k + 1) xs ys hT' h.2
/-- A LOOP: the relation bears a number that each round lowers; it speaks of the frame's slots by their numbers. -/
theorem wp_loop_mask {P : Program} {Q : Exit → Act → World → Prop} {w : World} {c : Code} {l : List Value} {ds : List Deferred} (bs : List Bool) (I : Nat → (Nat → Value) → World → Prop) (n0 : Nat) (h0 : I n0 (nth l) w)
    (round : ∀ n t w', I n t w' → ∀ K : Act → World → Prop, Hid (∀ (l' : List Value) (w'' : World) (n' : Nat), n' < n → keep bs l' = keep bs l → I n' (nth l') w'' → K ⟨l'.toArray, ds⟩ w'') → c.wp P (Exit.then K Q) ⟨(mask t 0 bs l).toArray, ds⟩ w') :
    (Code.loop c).wp P Q ⟨l.toArray, ds⟩ w := by
  have hl : l = mask (nth l) 0 bs l := mask_keep (nth l) bs 0 l l (fun i _ => by rw [Nat.zero_add]) rfl
  refine wp_loop_ghost (fun n a w => ∃ t, I n t w ∧ a = ⟨(mask t 0 bs l).toArray, ds⟩) n0 ⟨nth l, h0, by rw [← hl]⟩ ?_
  rintro n a w' ⟨t, hI, rfl⟩
  refine round n t w' hI _ ?_
  intro l' w'' n' hn hk hI'
  exact ⟨n', hn, nth l', hI', by rw [← mask_keep (nth l') bs 0 l l' (fun i _ => by rw [Nat.zero_add]) hk]⟩
/-- THE WAYS THROUGH AN 'if' MEET AGAIN: what the ways may write stands behind one function letter. -/
theorem wp_cut_mask {P : Program} {s : Code} {K : Act → World → Prop} {Q : Exit → Act → World → Prop} {l : List Value} {ds : List Deferred} {w : World} (bs : List Bool) (R : (Nat → Value) → World → Prop)
    (first : ∀ K' : Act → World → Prop, Hid (∀ (l' : List Value) (w' : World), keep bs l' = keep bs l → R (nth l') w' → K' ⟨l'.toArray, ds⟩ w') → s.wp P (Exit.then K' Q) ⟨l.toArray, ds⟩ w)
    (rest : ∀ (t : Nat → Value) (w' : World), R t w' → K ⟨(mask t 0 bs l).toArray, ds⟩ w') : s.wp P (Exit.then K Q) ⟨l.toArray, ds⟩ w := by
  refine wp_cut (fun a w' => ∃ t, a = ⟨(mask t 0 bs l).toArray, ds⟩ ∧ R t w') (fun a' w' h => ?_) (fun J K' hJ hK => ?_)
  · obtain ⟨t, rfl, hR⟩ := h
    exact rest t w' hR
  · refine first K' (fun l' w' hk hR => hK _ _ (hJ _ _ ⟨nth l', ?_, hR⟩))
    rw [← mask_keep (nth l') bs 0 l l' (fun i _ => by rw [Nat.zero_add]) hk]
/-- The world under one name. -/
theorem gen_world {P : Program} {c : Code} {Q : Exit → Act → World → Prop} {a : Act} {w : World} (h : ∀ wd, wd = w → c.wp P Q a wd) : c.wp P Q a w := h w rfl
end Go.Proofs.Ytchhbcmkhbfpoaa

/- Package float: small functions. -/
namespace Go.Proofs.Ytchhbcmkhbfpoaa
open Go.RowKit

/-- The same as whole numbers, with the greatest exponent and the bias. -/
inductive Fz : Int → Int → Int → Int → Int → Nat → Nat → Nat → Prop
  | half : Fz 2 5 10 31 15 5 10 1050
  | single : Fz 4 8 23 255 127 8 23 925
  | double : Fz 8 11 52 2047 1023 11 52 0
theorem Fz.fm {W E F M B : Int} {e f O : Nat} (h : Fz W E F M B e f O) : Fm W e f O := by
  cases h <;> constructor
section
variable {W E F M B : Int} {ne nf O : Nat}

theorem float_eb (h : Fz W E F M B ne nf O) (w : World) : Calls Try.prog 91 #[.int .i64 W] w fun e w' => e = .returned (.int .i64 E) ∧ w = w' := by
  cases h <;> (go_enter Try.func91, Try.ntmps91; go_wp2; go_ret; exact ⟨rfl, rfl⟩)
theorem float_most (h : Fz W E F M B ne nf O) (w : World) : Calls Try.prog 85 #[.int .i64 W] w fun e w' => e = .returned (.int .i64 M) ∧ w = w' := by
  have h2 := Lib.hid (float_eb h)
  cases h <;>
  (go_enter Try.func85, Try.ntmps85
   go_wp2_with (go_at_call 91; refine (h2.out _).mono ?_; rintro e w' ⟨rfl, rfl⟩)
   go_ret
   exact ⟨rfl, rfl⟩)
theorem float_bias (h : Fz W E F M B ne nf O) (w : World) : Calls Try.prog 86 #[.int .i64 W] w fun e w' => e = .returned (.int .i64 B) ∧ w = w' := by
  have h2 := Lib.hid (float_most h)
  cases h <;>
  (go_enter Try.func86, Try.ntmps86
   go_wp2_with (go_at_call 85; refine (h2.out _).mono ?_; rintro e w' ⟨rfl, rfl⟩)
   go_ret
   exact ⟨rfl, rfl⟩)
theorem float_fb (h : Fz W E F M B ne nf O) (w : World) : Calls Try.prog 83 #[.int .i64 W] w fun e w' => e = .returned (.int .i64 F) ∧ w = w' := by
  have h2 := Lib.hid (float_eb h)
  cases h <;>
  (go_enter Try.func83, Try.ntmps83
   go_wp2_with (go_at_call 91; refine (h2.out _).mono ?_; rintro e w' ⟨rfl, rfl⟩)
   go_ret
   exact ⟨rfl, rfl⟩)
theorem and_one (a : Int) (h0 : 0 ≤ a) (h1 : a < 18446744073709551616) : bits .and .u64 a 1 = a % 2 := by
  rw [u64_and a 1 h0 h1 (by decide) (by decide), show (1 : Int).toNat = 1 from rfl, nat_mask1]
  omega
theorem and_mask (a : Int) (k : Nat) (hk : k ≤ 62) : bits .and .i64 a (2 ^ k - 1) = a % 2 ^ k := by
  have h0 : 1 ≤ 2 ^ k := Nat.two_pow_pos k
  have e : ((2 : Int) ^ k - 1) = ((2 ^ k - 1 : Nat) : Int) := by rw [Int.ofNat_sub h0]; simp
  have hlt : 2 ^ k ≤ 2 ^ 62 := Nat.pow_le_pow_right (by decide) hk
  show IntKind.i64.wrap ((BitVec.ofInt 64 a &&& BitVec.ofInt 64 (2 ^ k - 1)).toNat : Int) = _
  rw [e, BitVec.toNat_and, ofInt_u64 _ (by omega), BitVec.toNat_ofInt, Nat.and_two_pow_sub_one_eq_mod]
  have h1 : ((a % ((2 ^ 64 : Nat) : Int)).toNat : Int) = a % ((2 ^ 64 : Nat) : Int) := by omega
  have h2 : (((a % ((2 ^ 64 : Nat) : Int)).toNat % 2 ^ k : Nat) : Int) = a % 2 ^ k := by
    rw [Int.natCast_emod, h1]
    have : ((2 ^ k : Nat) : Int) = 2 ^ k := by simp
    rw [← this]
    exact Int.emod_emod_of_dvd _ (by exact_mod_cast Nat.pow_dvd_pow 2 (show k ≤ 64 by omega))
  rw [h2]
  have hp : (0 : Int) < 2 ^ k := Int.pow_pos (by decide)
  have h3 : 0 ≤ a % 2 ^ k := Int.emod_nonneg _ (by omega)
  have h4 : a % 2 ^ k < 2 ^ k := Int.emod_lt_of_pos _ hp
  have h5 : (2 : Int) ^ k ≤ 2 ^ 62 := by exact_mod_cast hlt
  rw [IntWalk.i64_in _ (by omega)]
def fcells (E F x : Nat) : Array Value := #[.int .u64 (fsg E F x), .int .i64 (fex E F x), .int .u64 (ffr F x)]
def parts (s e f : Int) : Array Value := #[.int .u64 s, .int .i64 e, .int .u64 f]
theorem size_parts : (Try.prog.info? 130).map (·.size) = some 3 := by kernel_rfl
theorem pblk {w : World} {g : Nat} {t : TypeId} {s e f : Int} (h : Blk w g t (parts s e f)) :
    w.cell? ⟨g, 0, none⟩ = some (.int .u64 s) ∧ w.cell? ⟨g, 1, none⟩ = some (.int .i64 e) ∧ w.cell? ⟨g, 2, none⟩ = some (.int .u64 f) ∧ (∀ i, w.frozen? ⟨g, i, none⟩ = false) :=
  ⟨h.cell 0, h.cell 1, h.cell 2, h.free⟩
set_option maxRecDepth 100000 in
set_option maxHeartbeats 1000000 in
theorem float_split (h : Fz W E F M B ne nf O) (x : Nat) (hx : x < 18446744073709551616) (w : World) :
    Calls Try.prog 71 #[.int .u64 x, .int .i64 W] w fun e w' => e = .returned (.agg (parts (fsg ne nf x) (fex ne nf x) (ffr nf x))) ∧ Below w.heap.size w w' := by
  have h1 := Lib.hid (float_fb h)
  have h2 := Lib.hid (float_most h)
  have x0 : (0 : Int) ≤ x := by omega
  have x1 : (x : Int) < 18446744073709551616 := by omega
  have R := fun (n : Int) => Right64 (x : Int) n x0 x1
  cases h
  · have R1 := Lib.hid (R 15)
    have R2 := Lib.hid (R 10)
    clear R
    have r1 := turned_range 64 x ((15 : Int) % 64).toNat (by decide) x0 x1
    have r2 := turned_range 64 x ((10 : Int) % 64).toNat (by decide) x0 x1
    have A1 : bits .and .u64 (turned 64 x ((15 : Int) % 64).toNat) 1 = (fsg 5 10 x : Int) := by
      rw [and_one _ r1.1 r1.2]; unfold turned fsg; simp <;> omega
    have A2 : bits .and .i64 (IntKind.i64.wrap (turned 64 x ((10 : Int) % 64).toNat)) 31 = (fex 5 10 x : Int) := by
      rw [show (31 : Int) = 2 ^ 5 - 1 from rfl, and_mask _ _ (by decide)]; unfold turned fex; simp [IntKind.wrap, IntKind.bits, IntKind.signed]; omega
    have A3 : bits .and .u64 x (IntKind.u64.wrap (IntKind.u64.wrap 1024 - 1)) = (ffr 10 x : Int) := by
      rw [show IntKind.u64.wrap (IntKind.u64.wrap 1024 - 1) = ((1023 : Nat) : Int) from rfl, bits_and_u64_nat x 1023 hx (by decide), nat_mask10]; rfl
    generalize turned 64 x ((15 : Int) % 64).toNat = t1 at *
    generalize turned 64 x ((10 : Int) % 64).toNat = t2 at *
    go_enter Try.func71, Try.ntmps71
    go_wp2_with (first | (go_at_call 83; refine (h1.out _).mono ?_; rintro e w' ⟨rfl, rfl⟩) | (go_at_call 85; refine (h2.out _).mono ?_; rintro e w' ⟨rfl, rfl⟩))
    have b0 : Blk (w.alloc (.cells (parts 0 0 0) 130)) w.heap.size 130 (parts 0 0 0) := Blk.fresh _ _ _
    have S : Below w.heap.size w (w.alloc (.cells (parts 0 0 0) 130)) := below_alloc _ _
    have hg : w.heap.size ≤ w.heap.size := Nat.le_refl _
    unfold parts at b0 S
    generalize w.alloc (.cells #[.int .u64 0, .int .i64 0, .int .u64 0] 130) = w1 at *
    generalize hgg : w.heap.size = g at *
    obtain ⟨c0, c1, c2, fz⟩ := pblk b0
    have f0 := fz 0
    have f1 := fz 1
    have f2 := fz 2
    have B0 := Lib.hid b0
    clear fz b0
    refine wp_region_still_tail 19 (by kernel_rfl) (by kernel_rfl) ?_
    simp only [List.take_succ_cons, List.take_zero, List.drop_succ_cons, List.drop_zero]
    repeat still_step
    still_call ((R1.out _).mono (fun _ _ h => ⟨h.1, h.2.symm⟩))
    repeat still_step
    still_call ((R2.out _).mono (fun _ _ h => ⟨h.1, h.2.symm⟩))
    repeat still_step
    still_call ((h2.out _).mono (fun _ _ h => ⟨h.1, h.2.symm⟩))
    repeat still_step
    refine wpStill_nil ?_
    clear A1 A2 A3 R1 R2 h1 h2 r1 r2
    go_wp2
    exact bodyPost_ret (results_blk rfl _ rfl (((B0.out.put 0 _).put 1 _).put 2 _) Try.underlying130 rfl size_parts) rfl ⟨rfl, by rw [hgg]; exact below_drawn (((S.setCell (Nat.le_refl _) _).setCell (Nat.le_refl _) _).setCell (Nat.le_refl _) _)⟩
  · have R1 := Lib.hid (R 31)
    have R2 := Lib.hid (R 23)
    clear R
    have r1 := turned_range 64 x ((31 : Int) % 64).toNat (by decide) x0 x1
    have r2 := turned_range 64 x ((23 : Int) % 64).toNat (by decide) x0 x1
    have A1 : bits .and .u64 (turned 64 x ((31 : Int) % 64).toNat) 1 = (fsg 8 23 x : Int) := by
      rw [and_one _ r1.1 r1.2]; unfold turned fsg; simp <;> omega
    have A2 : bits .and .i64 (IntKind.i64.wrap (turned 64 x ((23 : Int) % 64).toNat)) 255 = (fex 8 23 x : Int) := by
      rw [show (255 : Int) = 2 ^ 8 - 1 from rfl, and_mask _ _ (by decide)]; unfold turned fex; simp [IntKind.wrap, IntKind.bits, IntKind.signed]; omega
    have A3 : bits .and .u64 x (IntKind.u64.wrap (IntKind.u64.wrap 8388608 - 1)) = (ffr 23 x : Int) := by
      rw [show IntKind.u64.wrap (IntKind.u64.wrap 8388608 - 1) = ((8388607 : Nat) : Int) from rfl, bits_and_u64_nat x 8388607 hx (by decide), nat_mask23]; rfl
    generalize turned 64 x ((31 : Int) % 64).toNat = t1 at *
    generalize turned 64 x ((23 : Int) % 64).toNat = t2 at *
    go_enter Try.func71, Try.ntmps71
    go_wp2_with (first | (go_at_call 83; refine (h1.out _).mono ?_; rintro e w' ⟨rfl, rfl⟩) | (go_at_call 85; refine (h2.out _).mono ?_; rintro e w' ⟨rfl, rfl⟩))
    have b0 : Blk (w.alloc (.cells (parts 0 0 0) 130)) w.heap.size 130 (parts 0 0 0) := Blk.fresh _ _ _
    have S : Below w.heap.size w (w.alloc (.cells (parts 0 0 0) 130)) := below_alloc _ _
    have hg : w.heap.size ≤ w.heap.size := Nat.le_refl _
    unfold parts at b0 S
    generalize w.alloc (.cells #[.int .u64 0, .int .i64 0, .int .u64 0] 130) = w1 at *
    generalize hgg : w.heap.size = g at *
    obtain ⟨c0, c1, c2, fz⟩ := pblk b0
    have f0 := fz 0
    have f1 := fz 1
    have f2 := fz 2
    have B0 := Lib.hid b0
    clear fz b0
    refine wp_region_still_tail 19 (by kernel_rfl) (by kernel_rfl) ?_
    simp only [List.take_succ_cons, List.take_zero, List.drop_succ_cons, List.drop_zero]
    repeat still_step
    still_call ((R1.out _).mono (fun _ _ h => ⟨h.1, h.2.symm⟩))
    repeat still_step
    still_call ((R2.out _).mono (fun _ _ h => ⟨h.1, h.2.symm⟩))
    repeat still_step
    still_call ((h2.out _).mono (fun _ _ h => ⟨h.1, h.2.symm⟩))
    repeat still_step
    refine wpStill_nil ?_
    clear A1 A2 A3 R1 R2 h1 h2 r1 r2
    go_wp2
    exact bodyPost_ret (results_blk rfl _ rfl (((B0.out.put 0 _).put 1 _).put 2 _) Try.underlying130 rfl size_parts) rfl ⟨rfl, by rw [hgg]; exact below_drawn (((S.setCell (Nat.le_refl _) _).setCell (Nat.le_refl _) _).setCell (Nat.le_refl _) _)⟩
  · have R1 := Lib.hid (R 63)
    have R2 := Lib.hid (R 52)
    clear R
    have r1 := turned_range 64 x ((63 : Int) % 64).toNat (by decide) x0 x1
    have r2 := turned_range 64 x ((52 : Int) % 64).toNat (by decide) x0 x1
    have A1 : bits .and .u64 (turned 64 x ((63 : Int) % 64).toNat) 1 = (fsg 11 52 x : Int) := by
      rw [and_one _ r1.1 r1.2]; unfold turned fsg; simp <;> omega
    have A2 : bits .and .i64 (IntKind.i64.wrap (turned 64 x ((52 : Int) % 64).toNat)) 2047 = (fex 11 52 x : Int) := by
      rw [show (2047 : Int) = 2 ^ 11 - 1 from rfl, and_mask _ _ (by decide)]; unfold turned fex; simp [IntKind.wrap, IntKind.bits, IntKind.signed]; omega
    have A3 : bits .and .u64 x (IntKind.u64.wrap (IntKind.u64.wrap 4503599627370496 - 1)) = (ffr 52 x : Int) := by
      rw [show IntKind.u64.wrap (IntKind.u64.wrap 4503599627370496 - 1) = ((4503599627370495 : Nat) : Int) from rfl, bits_and_u64_nat x 4503599627370495 hx (by decide), nat_mask52]; rfl
    generalize turned 64 x ((63 : Int) % 64).toNat = t1 at *
    generalize turned 64 x ((52 : Int) % 64).toNat = t2 at *
    go_enter Try.func71, Try.ntmps71
    go_wp2_with (first | (go_at_call 83; refine (h1.out _).mono ?_; rintro e w' ⟨rfl, rfl⟩) | (go_at_call 85; refine (h2.out _).mono ?_; rintro e w' ⟨rfl, rfl⟩))
    have b0 : Blk (w.alloc (.cells (parts 0 0 0) 130)) w.heap.size 130 (parts 0 0 0) := Blk.fresh _ _ _
    have S : Below w.heap.size w (w.alloc (.cells (parts 0 0 0) 130)) := below_alloc _ _
    have hg : w.heap.size ≤ w.heap.size := Nat.le_refl _
    unfold parts at b0 S
    generalize w.alloc (.cells #[.int .u64 0, .int .i64 0, .int .u64 0] 130) = w1 at *
    generalize hgg : w.heap.size = g at *
    obtain ⟨c0, c1, c2, fz⟩ := pblk b0
    have f0 := fz 0
    have f1 := fz 1
    have f2 := fz 2
    have B0 := Lib.hid b0
    clear fz b0
    refine wp_region_still_tail 19 (by kernel_rfl) (by kernel_rfl) ?_
    simp only [List.take_succ_cons, List.take_zero, List.drop_succ_cons, List.drop_zero]
    repeat still_step
    still_call ((R1.out _).mono (fun _ _ h => ⟨h.1, h.2.symm⟩))
    repeat still_step
    still_call ((R2.out _).mono (fun _ _ h => ⟨h.1, h.2.symm⟩))
    repeat still_step
    still_call ((h2.out _).mono (fun _ _ h => ⟨h.1, h.2.symm⟩))
    repeat still_step
    refine wpStill_nil ?_
    clear A1 A2 A3 R1 R2 h1 h2 r1 r2
    go_wp2
    exact bodyPost_ret (results_blk rfl _ rfl (((B0.out.put 0 _).put 1 _).put 2 _) Try.underlying130 rfl size_parts) rfl ⟨rfl, by rw [hgg]; exact below_drawn (((S.setCell (Nat.le_refl _) _).setCell (Nat.le_refl _) _).setCell (Nat.le_refl _) _)⟩
end
end Go.Proofs.Ytchhbcmkhbfpoaa
