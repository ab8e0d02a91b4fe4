/- Who leads to whom: plain. -/
import Derived.Test.YtjelgoeamaejmaaGreatKAB
namespace Go.Proofs.YtjelgoeamaejmaaGreat

/-- Node a leads to node b, or is it. -/
inductive Ld (xs : List Nd) : Nat → Nat → Prop
  | refl (a : Nat) : Ld xs a a
  | step {a t b : Nat} {x : Nd} (hx : xs[a]? = some x) (ht : (t : Int) ∈ namedN x) (h : Ld xs t b) : Ld xs a b
/-- Nodes name later ones, all of them there. -/
def Wf (xs : List Nd) : Prop := ∀ (i : Nat) (x : Nd), xs[i]? = some x → ∀ t ∈ namedN x, (i : Int) < t ∧ t < xs.length
section
variable {xs : List Nd}
theorem Ld.le (hw : Wf xs) {a b : Nat} (h : Ld xs a b) : a ≤ b := by
  induction h with
  | refl a => exact Nat.le_refl _
  | step hx ht _ ih => have := (hw _ _ hx _ ht).1; omega
theorem Ld.snoc {a b c : Nat} {x : Nd} (h : Ld xs a b) (hx : xs[b]? = some x) (hc : (c : Int) ∈ namedN x) : Ld xs a c := by
  induction h with
  | refl a => exact .step hx hc (.refl _)
  | step hx' ht _ ih => exact .step hx' ht (ih hx)
/-- The last step. -/
theorem Ld.last {a b : Nat} (h : Ld xs a b) : b = a ∨ ∃ c x, Ld xs a c ∧ xs[c]? = some x ∧ (b : Int) ∈ namedN x := by
  induction h with
  | refl a => exact .inl rfl
  | @step a t b x hx ht h ih =>
    rcases ih with rfl | ⟨c, y, h1, h2, h3⟩
    · exact .inr ⟨a, x, .refl _, hx, ht⟩
    · exact .inr ⟨c, y, .step hx ht h1, h2, h3⟩
theorem Ld.first (hw : Wf xs) {a b : Nat} {x : Nd} (hx : xs[a]? = some x) : Ld xs a b ↔ a = b ∨ ∃ t ∈ namedN x, t ≤ (b : Int) ∧ Ld xs t.toNat b := by
  constructor
  · intro h
    cases h with
    | refl => exact .inl rfl
    | @step _ t _ y hy ht h =>
      rw [hx] at hy
      injection hy with hy
      subst hy
      have := h.le hw
      exact .inr ⟨t, ht, by omega, by simpa using h⟩
  · rintro (rfl | ⟨t, ht, _, h⟩)
    · exact .refl _
    · have := (hw _ _ hx _ ht).1
      exact .step (t := t.toNat) hx (by rw [Int.toNat_of_nonneg (by omega)]; exact ht) h
open Classical in
noncomputable def ldB (xs : List Nd) (a b : Nat) : Bool := decide (Ld xs a b)
theorem ldB_true {a b : Nat} : ldB xs a b = true ↔ Ld xs a b := by simp [ldB]
theorem ldB_false {a b : Nat} : ldB xs a b = false ↔ ¬ Ld xs a b := by simp [ldB]
/-- The nodes to which a leads, of the first k. -/
noncomputable def ldL (xs : List Nd) (a k : Nat) : List Int := ((List.range k).filter (ldB xs a)).map fun j : Nat => (j : Int)
theorem ldL_zero (a : Nat) : ldL xs a 0 = [] := rfl
theorem ldL_yes {a k : Nat} (h : ldB xs a k = true) : ldL xs a (k + 1) = ldL xs a k ++ [(k : Int)] := by
  unfold ldL
  rw [List.range_succ, List.filter_append, List.map_append]
  simp [h]
theorem ldL_no {a k : Nat} (h : ldB xs a k = false) : ldL xs a (k + 1) = ldL xs a k := by
  unfold ldL
  rw [List.range_succ, List.filter_append, List.map_append]
  simp [h]
theorem ldL_below (hw : Wf xs) {a : Nat} : ∀ k, k ≤ a → ldL xs a k = []
  | 0, _ => rfl
  | k + 1, h => by
    rw [ldL_no (ldB_false.2 fun hl => by have := hl.le hw; omega)]
    exact ldL_below hw k (by omega)
theorem length_ldL (a k : Nat) : (ldL xs a k).length ≤ k := by
  unfold ldL
  rw [List.length_map]
  exact Nat.le_trans (List.length_filter_le _ _) (by simp)
/-- What stands in the table when the first k have been looked at. -/
def Led (xs : List Nd) (a k j : Nat) : Prop := j = a ∨ ∃ c x, c < k ∧ Ld xs a c ∧ xs[c]? = some x ∧ (j : Int) ∈ namedN x
theorem led_at (hw : Wf xs) {a k : Nat} : Led xs a k k ↔ Ld xs a k := by
  constructor
  · rintro (rfl | ⟨c, x, _, h, hx, hc⟩)
    · exact .refl _
    · exact h.snoc hx hc
  · intro h
    rcases h.last with rfl | ⟨c, x, h1, h2, h3⟩
    · exact .inl rfl
    · have := (hw _ _ h2 _ h3).1
      exact .inr ⟨c, x, by omega, h1, h2, h3⟩
theorem led_start {a j : Nat} (hw : Wf xs) : Led xs a a j ↔ j = a := by
  constructor
  · rintro (rfl | ⟨c, x, hc, h, _, _⟩)
    · rfl
    · have := h.le hw; omega
  · rintro rfl; exact .inl rfl
theorem led_no {a k j : Nat} (h : ¬ Ld xs a k) : Led xs a (k + 1) j ↔ Led xs a k j := by
  constructor
  · rintro (rfl | ⟨c, x, hc, h1, h2, h3⟩)
    · exact .inl rfl
    · refine .inr ⟨c, x, ?_, h1, h2, h3⟩
      have : c ≠ k := fun e => h (e ▸ h1)
      omega
  · rintro (rfl | ⟨c, x, hc, h⟩)
    · exact .inl rfl
    · exact .inr ⟨c, x, by omega, h⟩
theorem led_yes {a k j : Nat} {x : Nd} (h : Ld xs a k) (hx : xs[k]? = some x) : Led xs a (k + 1) j ↔ Led xs a k j ∨ (j : Int) ∈ namedN x := by
  constructor
  · rintro (rfl | ⟨c, y, hc, h1, h2, h3⟩)
    · exact .inl (.inl rfl)
    · by_cases e : c = k
      · subst e
        rw [hx] at h2
        injection h2 with h2
        subst h2
        exact .inr h3
      · exact .inl (.inr ⟨c, y, by omega, h1, h2, h3⟩)
  · rintro ((rfl | ⟨c, y, hc, h1⟩) | hj)
    · exact .inl rfl
    · exact .inr ⟨c, y, by omega, h1⟩
    · exact .inr ⟨k, x, by omega, h, hx, hj⟩
theorem wf_of {ch : It → Int} (h : checkE ch xs = 0) : Wf xs := by
  intro i x hx t ht
  have hi := (List.getElem?_eq_some_iff.1 hx).1
  unfold checkE at h
  split at h
  · cases h
  · have he : errN ch xs i = 0 := by
      rcases firstE_cases (errN ch xs) xs.length with h0 | ⟨k, hk, h0, h1⟩
      · exact h0 i hi
      · rw [firstE_at hk h0 h1] at h
        exact absurd h h1
    rw [errN_some hx] at he
    unfold wrongN at he
    split at he
    · cases he
    · split at he
      · cases he
      · split at he
        · cases he
        · split at he
          · contradiction
          · unfold nameE at he
            split at he
            · cases he
            · rename_i hn
              have : nameB i xs.length t = false := by
                cases hb : nameB i xs.length t
                · rfl
                · exact absurd (List.any_eq_true.2 ⟨t, ht, hb⟩) hn
              simp [nameB] at this
              omega
end
end Go.Proofs.YtjelgoeamaejmaaGreat
