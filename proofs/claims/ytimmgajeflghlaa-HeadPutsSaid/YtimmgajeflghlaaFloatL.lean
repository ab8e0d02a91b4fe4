
/- Floats: what the laws meet: the document's examples, a NaN's and a number's own shortest form. -/
import Derived.Test.YtimmgajeflghlaaFloatK
namespace Go.Proofs.Ytimmgajeflghlaa
open Go.RowKit
theorem nan_half : FNan 5 10 32256 := by unfold FNan fex ffr; decide
theorem sh_wd {x y v : Nat} (h : Shortest x y v) (hx : x < 2 ^ 64) : y < 2 ^ 64 ∧ Wd v y (if FNan 11 52 x then 9221120237041090560 else x) ∧ IsShort v y := by
  rcases h with ⟨h, rfl, rfl⟩ | ⟨h, a⟩
  · have e : Wd (2 : Nat) 32256 9221120237041090560 := Or.inl ⟨rfl, widen_nan (by decide) nan_half⟩
    rw [if_pos h]
    exact ⟨by decide, e, _, 2, e, sh_nan nan_wide, rfl⟩
  · rw [if_neg h]
    have key : Wd v y x → Shortest x y v → IsShort v y := fun e s => ⟨x, v, e, s, rfl⟩
    have hs : Shortest x y v := Or.inr ⟨h, a⟩
    rcases a with ⟨rfl, a⟩ | ⟨rfl, a, _⟩ | ⟨rfl, rfl, _, _⟩
    · have e : Wd (2 : Nat) y x := Or.inl ⟨rfl, a⟩
      exact ⟨by have := a.1; omega, e, key e hs⟩
    · have e : Wd (4 : Nat) y x := Or.inr (Or.inl ⟨rfl, a⟩)
      exact ⟨by have := a.1; omega, e, key e hs⟩
    · have e : Wd (8 : Nat) y y := Or.inr (Or.inr ⟨rfl, widen_self hx h⟩)
      exact ⟨hx, e, key e hs⟩
theorem one_short : Shortest 4607182418800017408 15360 2 := by
  refine Or.inr ⟨by unfold FNan fex ffr; decide, Or.inl ⟨rfl, ?_⟩⟩
  have := widen_normal (y := 15360) .half (by decide) (by unfold fex; decide) (by unfold fex; decide)
  have e : fsg 5 10 15360 * 2 ^ 63 + (fex 5 10 15360 + (1023 - (2 ^ (5 - 1) - 1))) * 2 ^ 52 + ffr 10 15360 * 2 ^ (52 - 10) = 4607182418800017408 := by unfold fsg fex ffr; decide
  rw [e] at this
  exact this
theorem tenth_nan : ¬ FNan 11 52 4591870180066957722 := by unfold FNan fex ffr; decide
theorem tenth_half (y : Nat) : ¬ Wide 5 10 1050 y 4591870180066957722 := by
  intro h
  have h1 := (wide_small .half (by decide) h tenth_nan).2.2 (by unfold fex; decide) (by unfold fex; decide)
  have e : fsg 11 52 4591870180066957722 * 2 ^ (5 + 10) + (fex 11 52 4591870180066957722 + (2 ^ (5 - 1) - 1) - 1023) * 2 ^ 10 + ffr 52 4591870180066957722 / 2 ^ (52 - 10) = 11878 := by unfold fsg fex ffr; decide
  rw [e] at h1
  rw [← h1] at h
  have h2 := widen_normal (y := 11878) .half (by decide) (by unfold fex; decide) (by unfold fex; decide)
  have := wide_fun .half h h2
  unfold fsg fex ffr at this
  revert this
  decide
theorem tenth_single (y : Nat) : ¬ Wide 8 23 925 y 4591870180066957722 := by
  intro h
  have h1 := (wide_small .single (by decide) h tenth_nan).2.2 (by unfold fex; decide) (by unfold fex; decide)
  have e : fsg 11 52 4591870180066957722 * 2 ^ (8 + 23) + (fex 11 52 4591870180066957722 + (2 ^ (8 - 1) - 1) - 1023) * 2 ^ 23 + ffr 52 4591870180066957722 / 2 ^ (52 - 23) = 1036831948 := by unfold fsg fex ffr; decide
  rw [e] at h1
  rw [← h1] at h
  have h2 := widen_normal (y := 1036831948) .single (by decide) (by unfold fex; decide) (by unfold fex; decide)
  have := wide_fun .single h h2
  unfold fsg fex ffr at this
  revert this
  decide
theorem tenth_short : Shortest 4591870180066957722 4591870180066957722 8 := Or.inr ⟨tenth_nan, Or.inr (Or.inr ⟨rfl, rfl, tenth_half, tenth_single⟩)⟩
end Go.Proofs.Ytimmgajeflghlaa
