/- Plain floats: what narrowing, widening and the document's bits come to. -/
import Derived.Test.YtmihoeholcaokaaKAH
namespace Go.Proofs.Ytmihoeholcaokaa
section
variable {W : Int} {E F O x y z : Nat}

theorem wide_small (h : Fm W E F O) (h8 : 925 ≤ O) (hw : Wide E F O y x) (hx : ¬ FNan 11 52 x) :
    (fex 11 52 x + (2 ^ (E - 1) - 1) ≥ 2 ^ E - 1 + 1023 → finf E F (fsg 11 52 x) = y) ∧
    (fex 11 52 x + (2 ^ (E - 1) - 1) ≤ 1023 → fsg 11 52 x * 2 ^ (E + F) + (ffr 52 x + 2 ^ 52) / 2 ^ (1024 - (2 ^ (E - 1) - 1) - fex 11 52 x) / 2 ^ (52 - F) = y) ∧
    (1023 < fex 11 52 x + (2 ^ (E - 1) - 1) → fex 11 52 x + (2 ^ (E - 1) - 1) < 2 ^ E - 1 + 1023 → fsg 11 52 x * 2 ^ (E + F) + (fex 11 52 x + (2 ^ (E - 1) - 1) - 1023) * 2 ^ F + ffr 52 x / 2 ^ (52 - F) = y) := by
  obtain ⟨hy, hx64, hw⟩ := hw
  have hys := f_split h hy
  rcases hw with ⟨_, a3⟩ | ⟨a1, a2, a3⟩ | ⟨a1, a2, a3, a4⟩
  · exact absurd (a3 ▸ nan_wide) hx
  · have i1 := inf_parts .double (f_small h y).1
    rw [← a3] at i1
    obtain ⟨_, i2, i3, i4⟩ := i1
    have := inf_of h hy a1 a2
    rw [i2, i3]
    refine ⟨fun _ => this.symm, fun hh => ?_, fun _ hh => ?_⟩ <;> (cases h <;> omega)
  · have hxs := f_small .double x
    have hsm := f_small h y
    have hnf := f_nf h y
    rw [a3]
    by_cases he : fex 11 52 x = 0
    · have e1 : fval 11 52 0 x = ffr 52 x := by unfold fval fnum fpow; rw [if_pos he, he]; simp
      rw [e1] at a4
      have hn0 : fnum E F y = 0 := by
        by_cases hn : fnum E F y = 0
        · exact hn
        · have h1 : 2 ^ 53 ≤ 2 ^ fpow E F O y := Nat.pow_le_pow_right (by decide) (by have := hnf.1; omega)
          have h2 : 1 * 2 ^ 53 ≤ fnum E F y * 2 ^ fpow E F O y := Nat.mul_le_mul (by omega) h1
          unfold fval at a4
          omega
      have hf0 : ffr 52 x = 0 := by unfold fval at a4; rw [hn0] at a4; omega
      have hy0 : fex E F y = 0 ∧ ffr F y = 0 := by
        unfold fnum at hn0
        have := Nat.two_pow_pos F
        split at hn0 <;> omega
      rw [hy0.1, hy0.2] at hys
      rw [he, hf0]
      refine ⟨fun hh => ?_, fun _ => ?_, fun hh => ?_⟩
      · cases h <;> omega
      · have h1 : (0 + 2 ^ 52) / 2 ^ (1024 - (2 ^ (E - 1) - 1) - 0) = 0 := Nat.div_eq_of_lt (by
          rw [Nat.zero_add]; exact Nat.pow_lt_pow_right (by decide) (by cases h <;> omega))
        rw [h1, Nat.zero_div]
        omega
      · cases h <;> omega
    · have e1 : fval 11 52 0 x = (ffr 52 x + 2 ^ 52) * 2 ^ (fex 11 52 x - 1) := by unfold fval fnum fpow; rw [if_neg he]; rfl
      rw [e1] at a4
      by_cases hY : 2 ^ F ≤ fnum E F y
      · have hey : fex E F y ≠ 0 := fun h0 => by unfold fnum at hY; rw [if_pos h0] at hY; omega
        have hyn : fnum E F y = ffr F y + 2 ^ F := by unfold fnum; rw [if_neg hey]
        have hq : fpow E F O y = fex E F y - 1 + O := rfl
        have hF : F ≤ 52 ∧ 52 - F ≤ O := by cases h <;> omega
        have hv : fval E F O y = (fnum E F y * 2 ^ (52 - F)) * 2 ^ (fpow E F O y - (52 - F)) := by
          unfold fval
          rw [Nat.mul_assoc, ← Nat.pow_add]
          congr 2
          omega
        have hp : 2 ^ F * 2 ^ (52 - F) = 2 ^ 52 := by rw [← Nat.pow_add]; congr 1; omega
        have n1 : FNF 52 0 (fnum E F y * 2 ^ (52 - F)) (fpow E F O y - (52 - F)) := by
          refine ⟨Nat.zero_le _, ?_, Or.inl ?_⟩
          · have := Nat.mul_lt_mul_of_pos_right hnf.2.1 (Nat.two_pow_pos (52 - F))
            rw [Nat.pow_succ, Nat.mul_right_comm, hp] at this
            omega
          · have := Nat.mul_le_mul_right (2 ^ (52 - F)) hY
            omega
        have n2 : FNF 52 0 (ffr 52 x + 2 ^ 52) (fex 11 52 x - 1) := ⟨Nat.zero_le _, by omega, Or.inl (by omega)⟩
        obtain ⟨c1, c2⟩ := nf_same n2 n1 (a4.trans hv)
        rw [hyn] at c1
        refine ⟨fun hh => ?_, fun hh => ?_, fun h1 h2 => ?_⟩ <;> (cases h <;> omega)
      · have hey : fex E F y = 0 := by
          by_cases h0 : fex E F y = 0
          · exact h0
          · unfold fnum at hY; rw [if_neg h0] at hY; omega
        have hyn : fnum E F y = ffr F y := by unfold fnum; rw [if_pos hey]
        have hq : fpow E F O y = O := by unfold fpow; rw [hey]; omega
        have hv : fval E F O y = ffr F y * 2 ^ O := by unfold fval; rw [hyn, hq]
        rw [hv] at a4
        have hlt : fex 11 52 x - 1 < O := by
          refine Nat.lt_of_not_le fun hle => ?_
          have : fex 11 52 x - 1 = (fex 11 52 x - 1 - O) + O := by omega
          rw [this, Nat.pow_add, ← Nat.mul_assoc] at a4
          have e2 := Nat.eq_of_mul_eq_mul_right (Nat.two_pow_pos O) a4
          have := Nat.mul_le_mul (show 2 ^ 52 ≤ ffr 52 x + 2 ^ 52 by omega) (Nat.two_pow_pos (fex 11 52 x - 1 - O))
          have hF : 2 ^ F ≤ 2 ^ 52 := Nat.pow_le_pow_right (by decide) (by cases h <;> omega)
          omega
        have hk : ∃ k, O = k + (fex 11 52 x - 1) := ⟨O - (fex 11 52 x - 1), by omega⟩
        obtain ⟨k, hk⟩ := hk
        rw [hk, Nat.pow_add, ← Nat.mul_assoc] at a4
        have e2 := Nat.eq_of_mul_eq_mul_right (Nat.two_pow_pos _) a4
        have hkF : 52 - F < k := by
          refine Nat.lt_of_not_le fun hle => ?_
          have h1 : 2 ^ k ≤ 2 ^ (52 - F) := Nat.pow_le_pow_right (by decide) hle
          have h2 : ffr F y * 2 ^ k ≤ ffr F y * 2 ^ (52 - F) := Nat.mul_le_mul_left _ h1
          have h3 := Nat.mul_lt_mul_of_pos_right hsm.2.2 (Nat.two_pow_pos (52 - F))
          have hp : 2 ^ F * 2 ^ (52 - F) = 2 ^ 52 := by rw [← Nat.pow_add]; congr 1; cases h <;> omega
          omega
        have hd : (ffr 52 x + 2 ^ 52) / 2 ^ (1024 - (2 ^ (E - 1) - 1) - fex 11 52 x) / 2 ^ (52 - F) = ffr F y := by
          rw [Nat.div_div_eq_div_mul, ← Nat.pow_add, e2]
          have : 1024 - (2 ^ (E - 1) - 1) - fex 11 52 x + (52 - F) = k := by cases h <;> omega
          rw [this]
          exact Nat.mul_div_cancel _ (Nat.two_pow_pos k)
        rw [hd]
        rw [hey] at hys
        refine ⟨fun hh => ?_, fun hh => ?_, fun h1 h2 => ?_⟩
        · cases h <;> omega
        · omega
        · cases h <;> omega

/-- A finite float is widened. -/
theorem widen_normal (h : Fm W E F O) (hy : y < 2 ^ (1 + E + F)) (h1 : 0 < fex E F y) (h2 : fex E F y < 2 ^ E - 1) :
    Wide E F O y (fsg E F y * 2 ^ 63 + (fex E F y + (1023 - (2 ^ (E - 1) - 1))) * 2 ^ 52 + ffr F y * 2 ^ (52 - F)) := by
  have hsm := f_small h y
  have hE : fex E F y + (1023 - (2 ^ (E - 1) - 1)) < 2 ^ 11 - 1 := by cases h <;> omega
  have hF : ffr F y * 2 ^ (52 - F) < 2 ^ 52 := by cases h <;> omega
  obtain ⟨p1, p2, p3, p4⟩ := f_parts .double hsm.1 (show fex E F y + (1023 - (2 ^ (E - 1) - 1)) < 2 ^ 11 by omega) hF
  simp only [show 11 + 52 = 63 from rfl] at p1 p2 p3 p4
  refine ⟨hy, p1, Or.inr (Or.inr ⟨h2, by rw [p3]; exact hE, p2, ?_⟩)⟩
  unfold fval fnum fpow
  rw [p3, p4, if_neg (by omega), if_neg (by omega), Nat.add_zero]
  have e1 : ffr F y * 2 ^ (52 - F) + 2 ^ 52 = (ffr F y + 2 ^ F) * 2 ^ (52 - F) := by cases h <;> omega
  rw [e1, Nat.mul_assoc, ← Nat.pow_add]
  congr 2
  cases h <;> omega
theorem widen_zero (h : Fm W E F O) (hy : y < 2 ^ (1 + E + F)) (h1 : fex E F y = 0) (h2 : ffr F y = 0) : Wide E F O y (fsg E F y * 2 ^ 63) := by
  have hsm := f_small h y
  obtain ⟨p1, p2, p3, p4⟩ := f_parts .double hsm.1 (show 0 < 2 ^ 11 by decide) (show 0 < 2 ^ 52 by decide)
  simp only [show 11 + 52 = 63 from rfl, Nat.zero_mul, Nat.add_zero] at p1 p2 p3 p4
  refine ⟨hy, p1, Or.inr (Or.inr ⟨?_, by rw [p3]; decide, p2, ?_⟩)⟩
  · rw [h1]; cases h <;> decide
  · unfold fval fnum
    rw [p3, p4, h1, h2]
    simp
theorem widen_low (h : Fm W E F O) (h8 : 925 ≤ O) (hy : y < 2 ^ (1 + E + F)) (h1 : fex E F y = 0) (k : Nat) (h2 : 2 ^ F ≤ ffr F y * 2 ^ k) (h3 : ffr F y * 2 ^ k < 2 ^ (F + 1)) (h4 : k ≤ F) :
    Wide E F O y (fsg E F y * 2 ^ 63 + (1024 - (2 ^ (E - 1) - 1) - k) * 2 ^ 52 + (ffr F y * 2 ^ k - 2 ^ F) * 2 ^ (52 - F)) := by
  have hsm := f_small h y
  have hE : 1024 - (2 ^ (E - 1) - 1) - k < 2 ^ 11 - 1 := by cases h <;> omega
  have hE0 : 1024 - (2 ^ (E - 1) - 1) - k ≠ 0 := by cases h <;> omega
  have hF : (ffr F y * 2 ^ k - 2 ^ F) * 2 ^ (52 - F) < 2 ^ 52 := by cases h <;> omega
  obtain ⟨p1, p2, p3, p4⟩ := f_parts .double hsm.1 (show 1024 - (2 ^ (E - 1) - 1) - k < 2 ^ 11 by omega) hF
  simp only [show 11 + 52 = 63 from rfl] at p1 p2 p3 p4
  refine ⟨hy, p1, Or.inr (Or.inr ⟨?_, by rw [p3]; exact hE, p2, ?_⟩)⟩
  · rw [h1]; cases h <;> decide
  unfold fval fnum fpow
  rw [p3, p4, if_neg hE0, if_pos h1, h1, Nat.add_zero]
  have e1 : (ffr F y * 2 ^ k - 2 ^ F) * 2 ^ (52 - F) + 2 ^ 52 = ffr F y * 2 ^ k * 2 ^ (52 - F) := by cases h <;> omega
  rw [e1, Nat.mul_assoc, Nat.mul_assoc, ← Nat.pow_add, ← Nat.pow_add]
  congr 2
  cases h <;> omega
theorem widen_self (hx : x < 2 ^ 64) (hn : ¬ FNan 11 52 x) : Wide 11 52 0 x x := by
  refine ⟨hx, hx, ?_⟩
  by_cases he : fex 11 52 x = 2 ^ 11 - 1
  · have hf : ffr 52 x = 0 := Decidable.byContradiction fun h => hn ⟨he, h⟩
    exact Or.inr (Or.inl ⟨he, hf, inf_of .double hx he hf⟩)
  · have := (f_small .double x).2.1
    exact Or.inr (Or.inr ⟨by omega, by omega, rfl, rfl⟩)
theorem widen_inf (h : Fm W E F O) (hy : y < 2 ^ (1 + E + F)) (h1 : fex E F y = 2 ^ E - 1) (h2 : ffr F y = 0) : Wide E F O y (finf 11 52 (fsg E F y)) :=
  ⟨hy, (inf_parts .double (f_small h y).1).1, Or.inr (Or.inl ⟨h1, h2, rfl⟩)⟩
theorem widen_nan (hy : y < 2 ^ (1 + E + F)) (h1 : FNan E F y) : Wide E F O y 9221120237041090560 := ⟨hy, by decide, Or.inl ⟨h1, rfl⟩⟩

/-- A number below 2^F, not 0, is brought up. -/
theorem bring (F m : Nat) (h0 : 0 < m) (hm : m < 2 ^ F) : ∃ k, k ≤ F ∧ 2 ^ F ≤ m * 2 ^ k ∧ m * 2 ^ k < 2 ^ (F + 1) := by
  have : ∀ d m, 0 < m → m < 2 ^ F → 2 ^ F ≤ m * 2 ^ d → ∃ k, k ≤ d ∧ 2 ^ F ≤ m * 2 ^ k ∧ m * 2 ^ k < 2 ^ (F + 1) := by
    intro d
    induction d with
    | zero => intro m _ h1 h2; omega
    | succ d ih =>
      intro m h0 h1 h2
      by_cases h3 : 2 ^ F ≤ m * 2
      · exact ⟨1, by omega, by omega, by rw [Nat.pow_succ 2 F]; omega⟩
      · obtain ⟨k, a, b, c⟩ := ih (m * 2) (by omega) (by omega) (by rw [Nat.pow_succ] at h2; rw [Nat.mul_assoc, Nat.mul_comm 2]; exact h2)
        refine ⟨k + 1, by omega, ?_, ?_⟩ <;> rw [Nat.pow_succ, Nat.mul_comm (2 ^ k), ← Nat.mul_assoc] <;> assumption
  refine this F m h0 hm ?_
  have := Nat.mul_le_mul_right (2 ^ F) h0
  omega
/-- Every form has a wider one. -/
theorem wide_some (h : Fm W E F O) (hy : y < 2 ^ (1 + E + F)) : ∃ x, Wide E F O y x := by
  by_cases h8 : 925 ≤ O
  · by_cases he : fex E F y = 2 ^ E - 1
    · by_cases hf : ffr F y = 0
      · exact ⟨_, widen_inf h hy he hf⟩
      · exact ⟨_, widen_nan hy ⟨he, hf⟩⟩
    have hsm := f_small h y
    by_cases h0 : fex E F y = 0
    · by_cases hf : ffr F y = 0
      · exact ⟨_, widen_zero h hy h0 hf⟩
      · obtain ⟨k, a, b, c⟩ := bring F (ffr F y) (by omega) hsm.2.2
        exact ⟨_, widen_low h h8 hy h0 k b c a⟩
    · exact ⟨_, widen_normal h hy (by omega) (by omega)⟩
  · obtain ⟨rfl, rfl, rfl⟩ : E = 11 ∧ F = 52 ∧ O = 0 := by cases h <;> omega
    by_cases hn : FNan 11 52 y
    · exact ⟨_, widen_nan hy hn⟩
    · exact ⟨_, widen_self hy hn⟩

/-- What the document's bits come to, of a number that is odd. -/
def BitsTo (E F O s m q z : Nat) (ok : Bool) : Prop :=
  (ok = true ∧ z < 2 ^ (1 + E + F) ∧ fex E F z < 2 ^ E - 1 ∧ fsg E F z = s ∧ fval E F O z = m * 2 ^ q) ∨
    (ok = false ∧ z = 0 ∧ ∀ y, y < 2 ^ (1 + E + F) → fex E F y < 2 ^ E - 1 → fval E F O y ≠ m * 2 ^ q)
theorem bits_low (h : Fm W E F O) {s m q : Nat} (hm : m % 2 = 1) (hq : q < O) : BitsTo E F O s m q 0 false := by
  refine Or.inr ⟨rfl, rfl, fun y hy _ e => ?_⟩
  have hn := (f_nf h y).1
  unfold fval at e
  have : fpow E F O y = (fpow E F O y - q - 1) + 1 + q := by omega
  rw [this, Nat.pow_add, ← Nat.mul_assoc] at e
  have e2 := Nat.eq_of_mul_eq_mul_right (Nat.two_pow_pos q) e
  rw [Nat.pow_succ, ← Nat.mul_assoc] at e2
  omega
theorem bits_big (h : Fm W E F O) {s m q : Nat} (hm : m % 2 = 1) (hb : 2 ^ (F + 1) ≤ m) : BitsTo E F O s m q 0 false := by
  refine Or.inr ⟨rfl, rfl, fun y hy _ e => ?_⟩
  have hn := (f_nf h y).2.1
  unfold fval at e
  by_cases hlt : q < fpow E F O y
  · have : fpow E F O y = (fpow E F O y - q - 1) + 1 + q := by omega
    rw [this, Nat.pow_add, ← Nat.mul_assoc] at e
    have e2 := Nat.eq_of_mul_eq_mul_right (Nat.two_pow_pos q) e
    rw [Nat.pow_succ, ← Nat.mul_assoc] at e2
    omega
  · have : q = (q - fpow E F O y) + fpow E F O y := by omega
    rw [this, Nat.pow_add, ← Nat.mul_assoc] at e
    have e2 := Nat.eq_of_mul_eq_mul_right (Nat.two_pow_pos _) e
    have := Nat.mul_le_mul_left m (Nat.two_pow_pos (q - fpow E F O y))
    omega
theorem bits_over (h : Fm W E F O) {s m q m' q' : Nat} (hn : FNF F O m' q') (hv : m' * 2 ^ q' = m * 2 ^ q) (hm : 2 ^ F ≤ m') (ho : 2 ^ E - 1 ≤ q' - O + 1) : BitsTo E F O s m q 0 false := by
  refine Or.inr ⟨rfl, rfl, fun y hy hf e => ?_⟩
  obtain ⟨c1, c2⟩ := nf_same (f_nf h y) hn (e.trans hv.symm)
  have hy1 := f_small h y
  unfold fnum at c1
  unfold fpow at c2
  split at c1 <;> omega
theorem bits_fits (h : Fm W E F O) {s m q m' q' : Nat} (hs : s < 2) (hn : FNF F O m' q') (hv : m' * 2 ^ q' = m * 2 ^ q) (ho : q' - O + 1 < 2 ^ E - 1) : BitsTo E F O s m q (fenc E F O s m' q') true := by
  obtain ⟨p1, p2, p3, p4, p5⟩ := f_dec h hs hn ho
  refine Or.inl ⟨rfl, p1, p3, p2, ?_⟩
  unfold fval
  rw [p4, p5, hv]

/-- What the document's value comes to: a sign, a number that is odd, or 0, its power, the kind. -/
def ValueTo (E F O x s m q k : Nat) : Prop :=
  (k = 2 ∧ FNan E F x ∧ s = 0) ∨ (k = 1 ∧ fex E F x = 2 ^ E - 1 ∧ ffr F x = 0 ∧ s = fsg E F x ∧ m = 0) ∨
    (k = 0 ∧ fex E F x < 2 ^ E - 1 ∧ s = fsg E F x ∧ ((m = 0 ∧ fval E F O x = 0) ∨ (m % 2 = 1 ∧ fval E F O x = m * 2 ^ q)))
theorem value_zero {s q k : Nat} (hv : ValueTo E F O x s 0 q k) (hk : k = 0) : fex E F x = 0 ∧ ffr F x = 0 := by
  rcases hv with ⟨a, _⟩ | ⟨a, _⟩ | ⟨_, _, _, ⟨_, b⟩ | ⟨b, _⟩⟩
  · omega
  · omega
  · have hp := Nat.two_pow_pos (fpow E F O x)
    have h0 : fnum E F x = 0 := by
      unfold fval at b
      rcases Nat.mul_eq_zero.1 b with h0 | h0
      · exact h0
      · omega
    unfold fnum at h0
    have := Nat.two_pow_pos F
    split at h0 <;> omega
  · omega
/-- The document's widening. -/
theorem bits_wide (h : Fm W E F O) {s m q k : Nat} {ok : Bool} (hy : y < 2 ^ (1 + E + F)) (hv : ValueTo E F O y s m q k) (hk : k = 0) (hm : m ≠ 0) (hb : BitsTo 11 52 0 s m q z ok) : Wide E F O y z := by
  rcases hv with ⟨a, _⟩ | ⟨a, _⟩ | ⟨_, a, b, ⟨c, _⟩ | ⟨c, d⟩⟩
  · omega
  · omega
  · omega
  · obtain ⟨x, hx⟩ := wide_some h hy
    obtain ⟨x1, x2, x3⟩ := hx
    rcases x3 with ⟨⟨n1, n2⟩, n3⟩ | ⟨n1, n2, n3⟩ | ⟨n1, n2, n3, n4⟩
    · omega
    · omega
    · rcases hb with ⟨_, b1, b2, b3, b4⟩ | ⟨_, _, b1⟩
      · exact ⟨hy, b1, Or.inr (Or.inr ⟨a, b2, b3.trans b, b4.trans d.symm⟩)⟩
      · exact absurd (n4.trans d) (b1 x x2 (by omega))
/-- The document's narrowing. -/
theorem bits_narrow (h : Fm W E F O) {s m q k : Nat} {ok : Bool} (hx : x < 2 ^ 64) (hv : ValueTo 11 52 0 x s m q k) (hk : k = 0) (hm : m ≠ 0) (hb : BitsTo E F O s m q z ok) :
    (ok = true ∧ Wide E F O z x) ∨ (ok = false ∧ ∀ y, ¬ Wide E F O y x) := by
  rcases hv with ⟨a, _⟩ | ⟨a, _⟩ | ⟨_, a, b, ⟨c, _⟩ | ⟨c, d⟩⟩
  · omega
  · omega
  · omega
  · rcases hb with ⟨h1, b1, b2, b3, b4⟩ | ⟨h1, _, b1⟩
    · exact Or.inl ⟨h1, b1, hx, Or.inr (Or.inr ⟨b2, a, b.symm.trans b3.symm, d.trans b4.symm⟩)⟩
    · refine Or.inr ⟨h1, fun y hw => ?_⟩
      obtain ⟨y1, y2, y3⟩ := hw
      rcases y3 with ⟨_, n3⟩ | ⟨n1, n2, n3⟩ | ⟨n1, n2, n3, n4⟩
      · have := nan_wide.1
        rw [← n3] at this
        omega
      · have := (inf_parts .double (f_small h y).1).2.2.1
        rw [← n3] at this
        omega
      · exact b1 y y1 n1 (n4.symm.trans d)
end
end Go.Proofs.Ytmihoeholcaokaa
