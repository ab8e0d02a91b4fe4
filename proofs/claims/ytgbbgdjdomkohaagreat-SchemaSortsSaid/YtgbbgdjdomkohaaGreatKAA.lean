/- Plain floats: a format's sign, number and power; what is wide, what is shortest. -/
namespace Go.Proofs.YtgbbgdjdomkohaaGreat

/-- The formats: width in bytes; the bits of the exponent, of the fraction; the least power (in halves of the least double). -/
inductive Fm : Int → Nat → Nat → Nat → Prop
  | half : Fm 2 5 10 1050
  | single : Fm 4 8 23 925
  | double : Fm 8 11 52 0

def fsg (E F x : Nat) : Nat := x / 2 ^ (E + F) % 2
def fex (E F x : Nat) : Nat := x / 2 ^ F % 2 ^ E
def ffr (F x : Nat) : Nat := x % 2 ^ F
def fnum (E F x : Nat) : Nat := if fex E F x = 0 then ffr F x else ffr F x + 2 ^ F
def fpow (E F O x : Nat) : Nat := fex E F x - 1 + O
/-- The value of a finite float, its sign apart. -/
def fval (E F O x : Nat) : Nat := fnum E F x * 2 ^ fpow E F O x
def fenc (E F O s M q : Nat) : Nat := s * 2 ^ (E + F) + (if M < 2 ^ F then M else (q - O + 1) * 2 ^ F + (M - 2 ^ F))
/-- A number and a power as a form has them. -/
def FNF (F O M q : Nat) : Prop := O ≤ q ∧ M < 2 ^ (F + 1) ∧ (2 ^ F ≤ M ∨ q = O)

section
variable {W : Int} {E F O x y : Nat}
theorem f_split (h : Fm W E F O) (hx : x < 2 ^ (1 + E + F)) : x = fsg E F x * 2 ^ (E + F) + fex E F x * 2 ^ F + ffr F x := by
  cases h <;> simp only [fsg, fex, ffr] at * <;> omega
theorem f_small (h : Fm W E F O) (x : Nat) : fsg E F x < 2 ∧ fex E F x < 2 ^ E ∧ ffr F x < 2 ^ F := by
  cases h <;> simp only [fsg, fex, ffr] <;> omega
/-- Put together out of parts. -/
theorem f_parts (h : Fm W E F O) {s e f : Nat} (hs : s < 2) (he : e < 2 ^ E) (hf : f < 2 ^ F) :
    s * 2 ^ (E + F) + e * 2 ^ F + f < 2 ^ (1 + E + F) ∧ fsg E F (s * 2 ^ (E + F) + e * 2 ^ F + f) = s ∧ fex E F (s * 2 ^ (E + F) + e * 2 ^ F + f) = e ∧ ffr F (s * 2 ^ (E + F) + e * 2 ^ F + f) = f := by
  cases h <;> simp only [fsg, fex, ffr] at * <;> omega
theorem f_nf (h : Fm W E F O) (x : Nat) : FNF F O (fnum E F x) (fpow E F O x) := by
  have := f_small h x
  unfold FNF fnum fpow
  cases h <;> split <;> omega
theorem f_enc (h : Fm W E F O) (hx : x < 2 ^ (1 + E + F)) : fenc E F O (fsg E F x) (fnum E F x) (fpow E F O x) = x := by
  have h1 := f_small h x
  have h2 := f_split h hx
  unfold fenc fnum fpow
  cases h <;> split <;> split <;> omega
/-- What a number and a power are as a form. -/
theorem f_dec (h : Fm W E F O) {s M q : Nat} (hs : s < 2) (hn : FNF F O M q) (hq : q - O + 1 < 2 ^ E - 1) :
    fenc E F O s M q < 2 ^ (1 + E + F) ∧ fsg E F (fenc E F O s M q) = s ∧ fex E F (fenc E F O s M q) < 2 ^ E - 1 ∧ fnum E F (fenc E F O s M q) = M ∧ fpow E F O (fenc E F O s M q) = q := by
  obtain ⟨h1, h2, h3⟩ := hn
  by_cases hM : M < 2 ^ F
  · have e : fenc E F O s M q = s * 2 ^ (E + F) + 0 * 2 ^ F + M := by unfold fenc; rw [if_pos hM]; omega
    have he : 0 < 2 ^ E := Nat.two_pow_pos E
    obtain ⟨p1, p2, p3, p4⟩ := f_parts h hs he hM
    rw [e]
    refine ⟨p1, p2, by omega, ?_, ?_⟩
    · unfold fnum; rw [p3, if_pos rfl, p4]
    · unfold fpow; rw [p3]; omega
  · have e : fenc E F O s M q = s * 2 ^ (E + F) + (q - O + 1) * 2 ^ F + (M - 2 ^ F) := by unfold fenc; rw [if_neg hM]; omega
    have hf : M - 2 ^ F < 2 ^ F := by rw [Nat.pow_succ] at h2; omega
    obtain ⟨p1, p2, p3, p4⟩ := f_parts h hs (show q - O + 1 < 2 ^ E by omega) hf
    rw [e]
    refine ⟨p1, p2, by omega, ?_, ?_⟩
    · unfold fnum; rw [p3, if_neg (by omega), p4]; omega
    · unfold fpow; rw [p3]; omega

theorem nf_low {F O M q M' q' : Nat} (h : FNF F O M q) (h' : FNF F O M' q') (e : M * 2 ^ q = M' * 2 ^ q') : ¬ q < q' := by
  intro hlt
  obtain ⟨a, b, c⟩ := h
  obtain ⟨a', b', c'⟩ := h'
  have hM : 2 ^ F ≤ M' := by omega
  have : q' = q + (q' - q) := by omega
  rw [this, Nat.pow_add, ← Nat.mul_assoc, Nat.mul_right_comm] at e
  have e2 := Nat.eq_of_mul_eq_mul_right (Nat.two_pow_pos q) e
  have hp : 2 ≤ 2 ^ (q' - q) := by
    have := Nat.pow_le_pow_right (show 0 < 2 by decide) (show 1 ≤ q' - q by omega)
    omega
  have := Nat.mul_le_mul hM hp
  rw [Nat.pow_succ] at b
  omega
theorem nf_same {F O M q M' q' : Nat} (h : FNF F O M q) (h' : FNF F O M' q') (e : M * 2 ^ q = M' * 2 ^ q') : M = M' ∧ q = q' := by
  have a := nf_low h h' e
  have b := nf_low h' h e.symm
  have hq : q = q' := by omega
  subst hq
  exact ⟨Nat.eq_of_mul_eq_mul_right (Nat.two_pow_pos q) e, rfl⟩
/-- A form is known by its sign and its value. -/
theorem f_inj (h : Fm W E F O) (hx : x < 2 ^ (1 + E + F)) (hy : y < 2 ^ (1 + E + F)) (hs : fsg E F x = fsg E F y) (hv : fval E F O x = fval E F O y) : x = y := by
  obtain ⟨a, b⟩ := nf_same (f_nf h x) (f_nf h y) hv
  rw [← f_enc h hx, ← f_enc h hy, hs, a, b]

def FNan (E F x : Nat) : Prop := fex E F x = 2 ^ E - 1 ∧ ffr F x ≠ 0
instance instFNan (E F x : Nat) : Decidable (FNan E F x) := by unfold FNan; exact inferInstance
def finf (E F s : Nat) : Nat := s * 2 ^ (E + F) + (2 ^ E - 1) * 2 ^ F
/-- The double x is the form y, wider. -/
def Wide (E F O y x : Nat) : Prop :=
  y < 2 ^ (1 + E + F) ∧ x < 2 ^ 64 ∧ ((FNan E F y ∧ x = 9221120237041090560) ∨ (fex E F y = 2 ^ E - 1 ∧ ffr F y = 0 ∧ x = finf 11 52 (fsg E F y)) ∨
    (fex E F y < 2 ^ E - 1 ∧ fex 11 52 x < 2047 ∧ fsg 11 52 x = fsg E F y ∧ fval 11 52 0 x = fval E F O y))
theorem inf_parts (h : Fm W E F O) {s : Nat} (hs : s < 2) : finf E F s < 2 ^ (1 + E + F) ∧ fsg E F (finf E F s) = s ∧ fex E F (finf E F s) = 2 ^ E - 1 ∧ ffr F (finf E F s) = 0 := by
  have := f_parts h hs (show 2 ^ E - 1 < 2 ^ E by have := Nat.two_pow_pos E; omega) (Nat.two_pow_pos F)
  exact this
theorem inf_of (h : Fm W E F O) (hx : x < 2 ^ (1 + E + F)) (he : fex E F x = 2 ^ E - 1) (hf : ffr F x = 0) : x = finf E F (fsg E F x) := by
  have := f_split h hx
  rw [he, hf] at this
  exact this
theorem nan_wide : FNan 11 52 9221120237041090560 := by unfold FNan fex ffr; decide
theorem wide_fun (_h : Fm W E F O) {x' : Nat} (a : Wide E F O y x) (b : Wide E F O y x') : x = x' := by
  obtain ⟨_, ax, a⟩ := a
  obtain ⟨_, bx, b⟩ := b
  rcases a with ⟨⟨a1, a2⟩, a3⟩ | ⟨a1, a2, a3⟩ | ⟨a1, a2, a3, a4⟩ <;> rcases b with ⟨⟨b1, b2⟩, b3⟩ | ⟨b1, b2, b3⟩ | ⟨b1, b2, b3, b4⟩ <;> first | omega | skip
  exact f_inj .double ax bx (a3.trans b3.symm) (a4.trans b4.symm)
theorem wide_inj (h : Fm W E F O) {y' : Nat} (a : Wide E F O y x) (b : Wide E F O y' x) (hx : ¬ FNan 11 52 x) : y = y' := by
  obtain ⟨ay, ax, a⟩ := a
  obtain ⟨yb, bx, b⟩ := b
  rcases a with ⟨⟨a1, a2⟩, a3⟩ | ⟨a1, a2, a3⟩ | ⟨a1, a2, a3, a4⟩
  · exact absurd (a3 ▸ nan_wide) hx
  all_goals rcases b with ⟨⟨b1, b2⟩, b3⟩ | ⟨b1, b2, b3⟩ | ⟨b1, b2, b3, b4⟩
  · exact absurd (b3 ▸ nan_wide) hx
  · have i1 := inf_parts .double (f_small h y).1
    have i2 := inf_parts .double (f_small h y').1
    rw [← a3] at i1
    rw [← b3] at i2
    rw [inf_of h ay a1 a2, inf_of h yb b1 b2, ← i1.2.1, ← i2.2.1]
  · have i1 := inf_parts .double (f_small h y).1
    rw [← a3] at i1
    omega
  · exact absurd (b3 ▸ nan_wide) hx
  · have i1 := inf_parts .double (f_small h y').1
    rw [← b3] at i1
    omega
  · exact f_inj h ay yb (a3.symm.trans b3) (a4.symm.trans b4)
/-- The shortest form of the double x is z, of v bytes. -/
def Shortest (x z v : Nat) : Prop :=
  (FNan 11 52 x ∧ z = 32256 ∧ v = 2) ∨ (¬ FNan 11 52 x ∧ ((v = 2 ∧ Wide 5 10 1050 z x) ∨ (v = 4 ∧ Wide 8 23 925 z x ∧ ∀ y, ¬ Wide 5 10 1050 y x) ∨
    (v = 8 ∧ z = x ∧ (∀ y, ¬ Wide 5 10 1050 y x) ∧ ∀ y, ¬ Wide 8 23 925 y x)))
theorem shortest_fun {z v z' v' : Nat} (a : Shortest x z v) (b : Shortest x z' v') : z = z' ∧ v = v' := by
  rcases a with ⟨a0, a1, a2⟩ | ⟨a0, a⟩ <;> rcases b with ⟨b0, b1, b2⟩ | ⟨b0, b⟩
  · omega
  · exact absurd a0 b0
  · exact absurd b0 a0
  rcases a with ⟨a1, a2⟩ | ⟨a1, a2, a3⟩ | ⟨a1, a2, a3, a4⟩ <;> rcases b with ⟨b1, b2⟩ | ⟨b1, b2, b3⟩ | ⟨b1, b2, b3, b4⟩
  · exact ⟨wide_inj .half a2 b2 a0, by omega⟩
  · exact absurd a2 (b3 _)
  · exact absurd a2 (b3 _)
  · exact absurd b2 (a3 _)
  · exact ⟨wide_inj .single a2 b2 a0, by omega⟩
  · exact absurd a2 (b4 _)
  · exact absurd b2 (a3 _)
  · exact absurd b2 (a4 _)
  · omega
end
end Go.Proofs.YtgbbgdjdomkohaaGreat

/- Plain floats: what narrowing, widening and the document's bits come to. -/
namespace Go.Proofs.YtgbbgdjdomkohaaGreat
section
variable {W : Int} {E F O x y z : Nat}

theorem wide_small (h : Fm W E F O) (h8 : 925 ≤ O) (hw : Wide E F O y x) (hx : ¬ FNan 11 52 x) :
    (fex 11 52 x + (2 ^ (E - 1) - 1) ≥ 2 ^ E - 1 + 1023 → finf E F (fsg 11 52 x) = y) ∧
    (fex 11 52 x + (2 ^ (E - 1) - 1) ≤ 1023 → fsg 11 52 x * 2 ^ (E + F) + (ffr 52 x + 2 ^ 52) / 2 ^ (1024 - (2 ^ (E - 1) - 1) - fex 11 52 x) / 2 ^ (52 - F) = y) ∧
    (1023 < fex 11 52 x + (2 ^ (E - 1) - 1) → fex 11 52 x + (2 ^ (E - 1) - 1) < 2 ^ E - 1 + 1023 → fsg 11 52 x * 2 ^ (E + F) + (fex 11 52 x + (2 ^ (E - 1) - 1) - 1023) * 2 ^ F + ffr 52 x / 2 ^ (52 - F) = y) := by
  obtain ⟨hy, hx64, hw⟩ := hw
  have hys := f_split h hy
  rcases hw with ⟨_, a3⟩ | ⟨a1, a2, a3⟩ | ⟨a1, a2, a3, a4⟩
  · exact absurd (a3 ▸ nan_wide) hx
  · have i1 := inf_parts .double (f_small h y).1
    rw [← a3] at i1
    obtain ⟨_, i2, i3, i4⟩ := i1
    have := inf_of h hy a1 a2
    rw [i2, i3]
    refine ⟨fun _ => this.symm, fun hh => ?_, fun _ hh => ?_⟩ <;> (cases h <;> omega)
  · have hxs := f_small .double x
    have hsm := f_small h y
    have hnf := f_nf h y
    rw [a3]
    by_cases he : fex 11 52 x = 0
    · have e1 : fval 11 52 0 x = ffr 52 x := by unfold fval fnum fpow; rw [if_pos he, he]; simp
      rw [e1] at a4
      have hn0 : fnum E F y = 0 := by
        by_cases hn : fnum E F y = 0
        · exact hn
        · have h1 : 2 ^ 53 ≤ 2 ^ fpow E F O y := Nat.pow_le_pow_right (by decide) (by have := hnf.1; omega)
          have h2 : 1 * 2 ^ 53 ≤ fnum E F y * 2 ^ fpow E F O y := Nat.mul_le_mul (by omega) h1
          unfold fval at a4
          omega
      have hf0 : ffr 52 x = 0 := by unfold fval at a4; rw [hn0] at a4; omega
      have hy0 : fex E F y = 0 ∧ ffr F y = 0 := by
        unfold fnum at hn0
        have := Nat.two_pow_pos F
        split at hn0 <;> omega
      rw [hy0.1, hy0.2] at hys
      rw [he, hf0]
      refine ⟨fun hh => ?_, fun _ => ?_, fun hh => ?_⟩
      · cases h <;> omega
      · have h1 : (0 + 2 ^ 52) / 2 ^ (1024 - (2 ^ (E - 1) - 1) - 0) = 0 := Nat.div_eq_of_lt (by
          rw [Nat.zero_add]; exact Nat.pow_lt_pow_right (by decide) (by cases h <;> omega))
        rw [h1, Nat.zero_div]
        omega
      · cases h <;> omega
    · have e1 : fval 11 52 0 x = (ffr 52 x + 2 ^ 52) * 2 ^ (fex 11 52 x - 1) := by unfold fval fnum fpow; rw [if_neg he]; rfl
      rw [e1] at a4
      by_cases hY : 2 ^ F ≤ fnum E F y
      · have hey : fex E F y ≠ 0 := fun h0 => by unfold fnum at hY; rw [if_pos h0] at hY; omega
        have hyn : fnum E F y = ffr F y + 2 ^ F := by unfold fnum; rw [if_neg hey]
        have hq : fpow E F O y = fex E F y - 1 + O := rfl
        have hF : F ≤ 52 ∧ 52 - F ≤ O := by cases h <;> omega
        have hv : fval E F O y = (fnum E F y * 2 ^ (52 - F)) * 2 ^ (fpow E F O y - (52 - F)) := by
          unfold fval
          rw [Nat.mul_assoc, ← Nat.pow_add]
          congr 2
          omega
        have hp : 2 ^ F * 2 ^ (52 - F) = 2 ^ 52 := by rw [← Nat.pow_add]; congr 1; omega
        have n1 : FNF 52 0 (fnum E F y * 2 ^ (52 - F)) (fpow E F O y - (52 - F)) := by
          refine ⟨Nat.zero_le _, ?_, Or.inl ?_⟩
          · have := Nat.mul_lt_mul_of_pos_right hnf.2.1 (Nat.two_pow_pos (52 - F))
            rw [Nat.pow_succ, Nat.mul_right_comm, hp] at this
            omega
          · have := Nat.mul_le_mul_right (2 ^ (52 - F)) hY
            omega
        have n2 : FNF 52 0 (ffr 52 x + 2 ^ 52) (fex 11 52 x - 1) := ⟨Nat.zero_le _, by omega, Or.inl (by omega)⟩
        obtain ⟨c1, c2⟩ := nf_same n2 n1 (a4.trans hv)
        rw [hyn] at c1
        refine ⟨fun hh => ?_, fun hh => ?_, fun h1 h2 => ?_⟩ <;> (cases h <;> omega)
      · have hey : fex E F y = 0 := by
          by_cases h0 : fex E F y = 0
          · exact h0
          · unfold fnum at hY; rw [if_neg h0] at hY; omega
        have hyn : fnum E F y = ffr F y := by unfold fnum; rw [if_pos hey]
        have hq : fpow E F O y = O := by unfold fpow; rw [hey]; omega
        have hv : fval E F O y = ffr F y * 2 ^ O := by unfold fval; rw [hyn, hq]
        rw [hv] at a4
        have hlt : fex 11 52 x - 1 < O := by
          refine Nat.lt_of_not_le fun hle => ?_
          have : fex 11 52 x - 1 = (fex 11 52 x - 1 - O) + O := by omega
          rw [this, Nat.pow_add, ← Nat.mul_assoc] at a4
          have e2 := Nat.eq_of_mul_eq_mul_right (Nat.two_pow_pos O) a4
          have := Nat.mul_le_mul (show 2 ^ 52 ≤ ffr 52 x + 2 ^ 52 by omega) (Nat.two_pow_pos (fex 11 52 x - 1 - O))
          have hF : 2 ^ F ≤ 2 ^ 52 := Nat.pow_le_pow_right (by decide) (by cases h <;> omega)
          omega
        have hk : ∃ k, O = k + (fex 11 52 x - 1) := ⟨O - (fex 11 52 x - 1), by omega⟩
        obtain ⟨k, hk⟩ := hk
        rw [hk, Nat.pow_add, ← Nat.mul_assoc] at a4
        have e2 := Nat.eq_of_mul_eq_mul_right (Nat.two_pow_pos _) a4
        have hkF : 52 - F < k := by
          refine Nat.lt_of_not_le fun hle => ?_
          have h1 : 2 ^ k ≤ 2 ^ (52 - F) := Nat.pow_le_pow_right (by decide) hle
          have h2 : ffr F y * 2 ^ k ≤ ffr F y * 2 ^ (52 - F) := Nat.mul_le_mul_left _ h1
          have h3 := Nat.mul_lt_mul_of_pos_right hsm.2.2 (Nat.two_pow_pos (52 - F))
          have hp : 2 ^ F * 2 ^ (52 - F) = 2 ^ 52 := by rw [← Nat.pow_add]; congr 1; cases h <;> omega
          omega
        have hd : (ffr 52 x + 2 ^ 52) / 2 ^ (1024 - (2 ^ (E - 1) - 1) - fex 11 52 x) / 2 ^ (52 - F) = ffr F y := by
          rw [Nat.div_div_eq_div_mul, ← Nat.pow_add, e2]
          have : 1024 - (2 ^ (E - 1) - 1) - fex 11 52 x + (52 - F) = k := by cases h <;> omega
          rw [this]
          exact Nat.mul_div_cancel _ (Nat.two_pow_pos k)
        rw [hd]
        rw [hey] at hys
        refine ⟨fun hh => ?_, fun hh => ?_, fun h1 h2 => ?_⟩
        · cases h <;> omega
        · omega
        · cases h <;> omega

/-- A finite float is widened. -/
theorem widen_normal (h : Fm W E F O) (hy : y < 2 ^ (1 + E + F)) (h1 : 0 < fex E F y) (h2 : fex E F y < 2 ^ E - 1) :
    Wide E F O y (fsg E F y * 2 ^ 63 + (fex E F y + (1023 - (2 ^ (E - 1) - 1))) * 2 ^ 52 + ffr F y * 2 ^ (52 - F)) := by
  have hsm := f_small h y
  have hE : fex E F y + (1023 - (2 ^ (E - 1) - 1)) < 2 ^ 11 - 1 := by cases h <;> omega
  have hF : ffr F y * 2 ^ (52 - F) < 2 ^ 52 := by cases h <;> omega
  obtain ⟨p1, p2, p3, p4⟩ := f_parts .double hsm.1 (show fex E F y + (1023 - (2 ^ (E - 1) - 1)) < 2 ^ 11 by omega) hF
  simp only [show 11 + 52 = 63 from rfl] at p1 p2 p3 p4
  refine ⟨hy, p1, Or.inr (Or.inr ⟨h2, by rw [p3]; exact hE, p2, ?_⟩)⟩
  unfold fval fnum fpow
  rw [p3, p4, if_neg (by omega), if_neg (by omega), Nat.add_zero]
  have e1 : ffr F y * 2 ^ (52 - F) + 2 ^ 52 = (ffr F y + 2 ^ F) * 2 ^ (52 - F) := by cases h <;> omega
  rw [e1, Nat.mul_assoc, ← Nat.pow_add]
  congr 2
  cases h <;> omega
theorem widen_zero (h : Fm W E F O) (hy : y < 2 ^ (1 + E + F)) (h1 : fex E F y = 0) (h2 : ffr F y = 0) : Wide E F O y (fsg E F y * 2 ^ 63) := by
  have hsm := f_small h y
  obtain ⟨p1, p2, p3, p4⟩ := f_parts .double hsm.1 (show 0 < 2 ^ 11 by decide) (show 0 < 2 ^ 52 by decide)
  simp only [show 11 + 52 = 63 from rfl, Nat.zero_mul, Nat.add_zero] at p1 p2 p3 p4
  refine ⟨hy, p1, Or.inr (Or.inr ⟨?_, by rw [p3]; decide, p2, ?_⟩)⟩
  · rw [h1]; cases h <;> decide
  · unfold fval fnum
    rw [p3, p4, h1, h2]
    simp
theorem widen_low (h : Fm W E F O) (h8 : 925 ≤ O) (hy : y < 2 ^ (1 + E + F)) (h1 : fex E F y = 0) (k : Nat) (h2 : 2 ^ F ≤ ffr F y * 2 ^ k) (h3 : ffr F y * 2 ^ k < 2 ^ (F + 1)) (h4 : k ≤ F) :
    Wide E F O y (fsg E F y * 2 ^ 63 + (1024 - (2 ^ (E - 1) - 1) - k) * 2 ^ 52 + (ffr F y * 2 ^ k - 2 ^ F) * 2 ^ (52 - F)) := by
  have hsm := f_small h y
  have hE : 1024 - (2 ^ (E - 1) - 1) - k < 2 ^ 11 - 1 := by cases h <;> omega
  have hE0 : 1024 - (2 ^ (E - 1) - 1) - k ≠ 0 := by cases h <;> omega
  have hF : (ffr F y * 2 ^ k - 2 ^ F) * 2 ^ (52 - F) < 2 ^ 52 := by cases h <;> omega
  obtain ⟨p1, p2, p3, p4⟩ := f_parts .double hsm.1 (show 1024 - (2 ^ (E - 1) - 1) - k < 2 ^ 11 by omega) hF
  simp only [show 11 + 52 = 63 from rfl] at p1 p2 p3 p4
  refine ⟨hy, p1, Or.inr (Or.inr ⟨?_, by rw [p3]; exact hE, p2, ?_⟩)⟩
  · rw [h1]; cases h <;> decide
  unfold fval fnum fpow
  rw [p3, p4, if_neg hE0, if_pos h1, h1, Nat.add_zero]
  have e1 : (ffr F y * 2 ^ k - 2 ^ F) * 2 ^ (52 - F) + 2 ^ 52 = ffr F y * 2 ^ k * 2 ^ (52 - F) := by cases h <;> omega
  rw [e1, Nat.mul_assoc, Nat.mul_assoc, ← Nat.pow_add, ← Nat.pow_add]
  congr 2
  cases h <;> omega
theorem widen_self (hx : x < 2 ^ 64) (hn : ¬ FNan 11 52 x) : Wide 11 52 0 x x := by
  refine ⟨hx, hx, ?_⟩
  by_cases he : fex 11 52 x = 2 ^ 11 - 1
  · have hf : ffr 52 x = 0 := Decidable.byContradiction fun h => hn ⟨he, h⟩
    exact Or.inr (Or.inl ⟨he, hf, inf_of .double hx he hf⟩)
  · have := (f_small .double x).2.1
    exact Or.inr (Or.inr ⟨by omega, by omega, rfl, rfl⟩)
theorem widen_inf (h : Fm W E F O) (hy : y < 2 ^ (1 + E + F)) (h1 : fex E F y = 2 ^ E - 1) (h2 : ffr F y = 0) : Wide E F O y (finf 11 52 (fsg E F y)) :=
  ⟨hy, (inf_parts .double (f_small h y).1).1, Or.inr (Or.inl ⟨h1, h2, rfl⟩)⟩
theorem widen_nan (hy : y < 2 ^ (1 + E + F)) (h1 : FNan E F y) : Wide E F O y 9221120237041090560 := ⟨hy, by decide, Or.inl ⟨h1, rfl⟩⟩

/-- A number below 2^F, not 0, is brought up. -/
theorem bring (F m : Nat) (h0 : 0 < m) (hm : m < 2 ^ F) : ∃ k, k ≤ F ∧ 2 ^ F ≤ m * 2 ^ k ∧ m * 2 ^ k < 2 ^ (F + 1) := by
  have : ∀ d m, 0 < m → m < 2 ^ F → 2 ^ F ≤ m * 2 ^ d → ∃ k, k ≤ d ∧ 2 ^ F ≤ m * 2 ^ k ∧ m * 2 ^ k < 2 ^ (F + 1) := by
    intro d
    induction d with
    | zero => intro m _ h1 h2; omega
    | succ d ih =>
      intro m h0 h1 h2
      by_cases h3 : 2 ^ F ≤ m * 2
      · exact ⟨1, by omega, by omega, by rw [Nat.pow_succ 2 F]; omega⟩
      · obtain ⟨k, a, b, c⟩ := ih (m * 2) (by omega) (by omega) (by rw [Nat.pow_succ] at h2; rw [Nat.mul_assoc, Nat.mul_comm 2]; exact h2)
        refine ⟨k + 1, by omega, ?_, ?_⟩ <;> rw [Nat.pow_succ, Nat.mul_comm (2 ^ k), ← Nat.mul_assoc] <;> assumption
  refine this F m h0 hm ?_
  have := Nat.mul_le_mul_right (2 ^ F) h0
  omega
/-- Every form has a wider one. -/
theorem wide_some (h : Fm W E F O) (hy : y < 2 ^ (1 + E + F)) : ∃ x, Wide E F O y x := by
  by_cases h8 : 925 ≤ O
  · by_cases he : fex E F y = 2 ^ E - 1
    · by_cases hf : ffr F y = 0
      · exact ⟨_, widen_inf h hy he hf⟩
      · exact ⟨_, widen_nan hy ⟨he, hf⟩⟩
    have hsm := f_small h y
    by_cases h0 : fex E F y = 0
    · by_cases hf : ffr F y = 0
      · exact ⟨_, widen_zero h hy h0 hf⟩
      · obtain ⟨k, a, b, c⟩ := bring F (ffr F y) (by omega) hsm.2.2
        exact ⟨_, widen_low h h8 hy h0 k b c a⟩
    · exact ⟨_, widen_normal h hy (by omega) (by omega)⟩
  · obtain ⟨rfl, rfl, rfl⟩ : E = 11 ∧ F = 52 ∧ O = 0 := by cases h <;> omega
    by_cases hn : FNan 11 52 y
    · exact ⟨_, widen_nan hy hn⟩
    · exact ⟨_, widen_self hy hn⟩

/-- What the document's bits come to, of a number that is odd. -/
def BitsTo (E F O s m q z : Nat) (ok : Bool) : Prop :=
  (ok = true ∧ z < 2 ^ (1 + E + F) ∧ fex E F z < 2 ^ E - 1 ∧ fsg E F z = s ∧ fval E F O z = m * 2 ^ q) ∨
    (ok = false ∧ z = 0 ∧ ∀ y, y < 2 ^ (1 + E + F) → fex E F y < 2 ^ E - 1 → fval E F O y ≠ m * 2 ^ q)
theorem bits_low (h : Fm W E F O) {s m q : Nat} (hm : m % 2 = 1) (hq : q < O) : BitsTo E F O s m q 0 false := by
  refine Or.inr ⟨rfl, rfl, fun y hy _ e => ?_⟩
  have hn := (f_nf h y).1
  unfold fval at e
  have : fpow E F O y = (fpow E F O y - q - 1) + 1 + q := by omega
  rw [this, Nat.pow_add, ← Nat.mul_assoc] at e
  have e2 := Nat.eq_of_mul_eq_mul_right (Nat.two_pow_pos q) e
  rw [Nat.pow_succ, ← Nat.mul_assoc] at e2
  omega
theorem bits_big (h : Fm W E F O) {s m q : Nat} (hm : m % 2 = 1) (hb : 2 ^ (F + 1) ≤ m) : BitsTo E F O s m q 0 false := by
  refine Or.inr ⟨rfl, rfl, fun y hy _ e => ?_⟩
  have hn := (f_nf h y).2.1
  unfold fval at e
  by_cases hlt : q < fpow E F O y
  · have : fpow E F O y = (fpow E F O y - q - 1) + 1 + q := by omega
    rw [this, Nat.pow_add, ← Nat.mul_assoc] at e
    have e2 := Nat.eq_of_mul_eq_mul_right (Nat.two_pow_pos q) e
    rw [Nat.pow_succ, ← Nat.mul_assoc] at e2
    omega
  · have : q = (q - fpow E F O y) + fpow E F O y := by omega
    rw [this, Nat.pow_add, ← Nat.mul_assoc] at e
    have e2 := Nat.eq_of_mul_eq_mul_right (Nat.two_pow_pos _) e
    have := Nat.mul_le_mul_left m (Nat.two_pow_pos (q - fpow E F O y))
    omega
theorem bits_over (h : Fm W E F O) {s m q m' q' : Nat} (hn : FNF F O m' q') (hv : m' * 2 ^ q' = m * 2 ^ q) (hm : 2 ^ F ≤ m') (ho : 2 ^ E - 1 ≤ q' - O + 1) : BitsTo E F O s m q 0 false := by
  refine Or.inr ⟨rfl, rfl, fun y hy hf e => ?_⟩
  obtain ⟨c1, c2⟩ := nf_same (f_nf h y) hn (e.trans hv.symm)
  have hy1 := f_small h y
  unfold fnum at c1
  unfold fpow at c2
  split at c1 <;> omega
theorem bits_fits (h : Fm W E F O) {s m q m' q' : Nat} (hs : s < 2) (hn : FNF F O m' q') (hv : m' * 2 ^ q' = m * 2 ^ q) (ho : q' - O + 1 < 2 ^ E - 1) : BitsTo E F O s m q (fenc E F O s m' q') true := by
  obtain ⟨p1, p2, p3, p4, p5⟩ := f_dec h hs hn ho
  refine Or.inl ⟨rfl, p1, p3, p2, ?_⟩
  unfold fval
  rw [p4, p5, hv]

/-- What the document's value comes to: a sign, a number that is odd, or 0, its power, the kind. -/
def ValueTo (E F O x s m q k : Nat) : Prop :=
  (k = 2 ∧ FNan E F x ∧ s = 0) ∨ (k = 1 ∧ fex E F x = 2 ^ E - 1 ∧ ffr F x = 0 ∧ s = fsg E F x ∧ m = 0) ∨
    (k = 0 ∧ fex E F x < 2 ^ E - 1 ∧ s = fsg E F x ∧ ((m = 0 ∧ fval E F O x = 0) ∨ (m % 2 = 1 ∧ fval E F O x = m * 2 ^ q)))
theorem value_zero {s q k : Nat} (hv : ValueTo E F O x s 0 q k) (hk : k = 0) : fex E F x = 0 ∧ ffr F x = 0 := by
  rcases hv with ⟨a, _⟩ | ⟨a, _⟩ | ⟨_, _, _, ⟨_, b⟩ | ⟨b, _⟩⟩
  · omega
  · omega
  · have hp := Nat.two_pow_pos (fpow E F O x)
    have h0 : fnum E F x = 0 := by
      unfold fval at b
      rcases Nat.mul_eq_zero.1 b with h0 | h0
      · exact h0
      · omega
    unfold fnum at h0
    have := Nat.two_pow_pos F
    split at h0 <;> omega
  · omega
/-- The document's widening. -/
theorem bits_wide (h : Fm W E F O) {s m q k : Nat} {ok : Bool} (hy : y < 2 ^ (1 + E + F)) (hv : ValueTo E F O y s m q k) (hk : k = 0) (hm : m ≠ 0) (hb : BitsTo 11 52 0 s m q z ok) : Wide E F O y z := by
  rcases hv with ⟨a, _⟩ | ⟨a, _⟩ | ⟨_, a, b, ⟨c, _⟩ | ⟨c, d⟩⟩
  · omega
  · omega
  · omega
  · obtain ⟨x, hx⟩ := wide_some h hy
    obtain ⟨x1, x2, x3⟩ := hx
    rcases x3 with ⟨⟨n1, n2⟩, n3⟩ | ⟨n1, n2, n3⟩ | ⟨n1, n2, n3, n4⟩
    · omega
    · omega
    · rcases hb with ⟨_, b1, b2, b3, b4⟩ | ⟨_, _, b1⟩
      · exact ⟨hy, b1, Or.inr (Or.inr ⟨a, b2, b3.trans b, b4.trans d.symm⟩)⟩
      · exact absurd (n4.trans d) (b1 x x2 (by omega))
/-- The document's narrowing. -/
theorem bits_narrow (h : Fm W E F O) {s m q k : Nat} {ok : Bool} (hx : x < 2 ^ 64) (hv : ValueTo 11 52 0 x s m q k) (hk : k = 0) (hm : m ≠ 0) (hb : BitsTo E F O s m q z ok) :
    (ok = true ∧ Wide E F O z x) ∨ (ok = false ∧ ∀ y, ¬ Wide E F O y x) := by
  rcases hv with ⟨a, _⟩ | ⟨a, _⟩ | ⟨_, a, b, ⟨c, _⟩ | ⟨c, d⟩⟩
  · omega
  · omega
  · omega
  · rcases hb with ⟨h1, b1, b2, b3, b4⟩ | ⟨h1, _, b1⟩
    · exact Or.inl ⟨h1, b1, hx, Or.inr (Or.inr ⟨b2, a, b.symm.trans b3.symm, d.trans b4.symm⟩)⟩
    · refine Or.inr ⟨h1, fun y hw => ?_⟩
      obtain ⟨y1, y2, y3⟩ := hw
      rcases y3 with ⟨_, n3⟩ | ⟨n1, n2, n3⟩ | ⟨n1, n2, n3, n4⟩
      · have := nan_wide.1
        rw [← n3] at this
        omega
      · have := (inf_parts .double (f_small h y).1).2.2.1
        rw [← n3] at this
        omega
      · exact b1 y y1 n1 (n4.symm.trans d)
end
end Go.Proofs.YtgbbgdjdomkohaaGreat
