/- The contracts of what lays numbers as bytes. -/
import Derived.Test.YtabmckjlmpajoaaDoorKAW
namespace Go.Proofs.YtabmckjlmpajoaaDoor
open Go.RowKit

theorem getD_rev_pad (zs : List Int) (k : Nat) (hk : k < 8) : ((pad zs 8).reverse).getD k 0 = zs.getD (7 - k) 0 := by
  have hl : k < (pad zs 8).length := by rw [length_pad]; exact hk
  rw [List.getD_eq_getElem?_getD, List.getElem?_reverse hl, length_pad]
  simp [pad, show 8 - 1 - k < 8 by omega]
theorem rev_step (zs : List Int) (m : Nat) (hm : m < 8) :
    big 18446744073709551616 ((pad zs 8).reverse.take (8 - m)) = (big 18446744073709551616 ((pad zs 8).reverse.take (8 - (m + 1))) * 256 % 18446744073709551616 + zs.getD m 0) % 18446744073709551616 := by
  rw [mod_step, show 8 - m = (8 - (m + 1)) + 1 by omega, big_take _ _ _ (by rw [List.length_reverse, length_pad]; omega), getD_rev_pad _ _ (by omega), show 7 - (8 - (m + 1)) = m by omega]

/-- The n bytes of x, the least one first. -/
def le (n : Nat) (x : Int) : List Int := (List.range n).map fun i => x / 256 ^ i % 256
theorem length_le (n : Nat) (x : Int) : (le n x).length = n := by simp [le]
theorem le_succ (n : Nat) (x : Int) : le (n + 1) x = le n x ++ [x / 256 ^ n % 256] := by simp [le, List.range_succ]
theorem byte_le (n : Nat) (x : Int) : ByteL (le n x) := by
  intro c hc
  simp only [le, List.mem_map] at hc
  obtain ⟨i, _, rfl⟩ := hc
  omega
theorem laid_step (zs : List Int) (k : Nat) (x : Int) (h : k < zs.length) : (le k x ++ zs.drop k).set k (x / 256 ^ k % 256) = le (k + 1) x ++ zs.drop (k + 1) := by
  rw [List.set_append_right _ _ (by rw [length_le]; exact Nat.le_refl _), length_le, Nat.sub_self, List.drop_eq_getElem_cons h, List.set_cons_zero, le_succ, List.append_assoc]
  rfl
theorem div_step (x : Int) (k : Nat) : x / 256 ^ k / 256 = x / 256 ^ (k + 1) := by
  rw [Int.pow_succ, Int.ediv_ediv_of_nonneg (Int.le_of_lt (Int.pow_pos (by decide)))]

theorem getD_set (l : List Int) (i j : Nat) (u : Int) (h : i < l.length) : (l.set i u).getD j 0 = if i = j then u else l.getD j 0 := by
  simp only [List.getD_eq_getElem?_getD, List.getElem?_set]
  by_cases e : i = j
  · subst e; simp [h]
  · simp [e]
/-- zs with its first k turned round against the last k. -/
def swapped (zs : List Int) (k : Nat) : List Int := (List.range zs.length).map fun i => if i < k ∨ zs.length ≤ i + k then zs.getD (zs.length - 1 - i) 0 else zs.getD i 0
theorem length_swapped (zs : List Int) (k : Nat) : (swapped zs k).length = zs.length := by simp [swapped]
theorem getD_swapped (zs : List Int) (k i : Nat) (h : i < zs.length) : (swapped zs k).getD i 0 = if i < k ∨ zs.length ≤ i + k then zs.getD (zs.length - 1 - i) 0 else zs.getD i 0 := by
  simp [swapped, List.getD_eq_getElem?_getD, h]
theorem ext_getD (a b : List Int) (hl : a.length = b.length) (h : ∀ i, i < a.length → a.getD i 0 = b.getD i 0) : a = b := by
  apply List.ext_getElem hl
  intro i h1 h2
  have := h i h1
  simpa [List.getD_eq_getElem?_getD, h1, h2] using this
theorem swapped_zero (zs : List Int) : swapped zs 0 = zs := by
  apply ext_getD _ _ (length_swapped _ _)
  intro i hi
  rw [length_swapped] at hi
  rw [getD_swapped _ _ _ hi, if_neg (by omega)]
theorem swapped_step (zs : List Int) (k : Nat) (h : k < zs.length - 1 - k) :
    ((swapped zs k).set k ((swapped zs k).getD (zs.length - 1 - k) 0)).set (zs.length - 1 - k) ((swapped zs k).getD k 0) = swapped zs (k + 1) := by
  apply ext_getD _ _ (by simp [length_swapped])
  intro i hi
  simp only [List.length_set, length_swapped] at hi
  rw [getD_set _ _ _ _ (by simp [length_swapped]; omega), getD_set _ _ _ _ (by simp [length_swapped]; omega), getD_swapped _ _ _ hi, getD_swapped _ _ _ hi, getD_swapped _ _ _ (by omega), getD_swapped _ _ _ (by omega)]
  by_cases e1 : zs.length - 1 - k = i
  · rw [if_pos e1, if_neg (by omega), if_pos (by omega)]
    congr 1; omega
  · rw [if_neg e1]
    by_cases e2 : k = i
    · rw [if_pos e2, if_neg (by omega), if_pos (by omega)]
      congr 1; omega
    · rw [if_neg e2]
      by_cases e3 : i < k ∨ zs.length ≤ i + k
      · rw [if_pos e3, if_pos (by omega)]
      · rw [if_neg e3, if_neg (by omega)]
theorem swapped_end (zs : List Int) (k : Nat) (h : zs.length - 1 - k ≤ k) : swapped zs k = zs.reverse := by
  apply ext_getD _ _ (by simp [length_swapped])
  intro i hi
  rw [length_swapped] at hi
  have hr : zs.reverse.getD i 0 = zs.getD (zs.length - 1 - i) 0 := by
    rw [List.getD_eq_getElem?_getD, List.getElem?_reverse hi, ← List.getD_eq_getElem?_getD]
  rw [getD_swapped _ _ _ hi, hr]
  by_cases e : i < k ∨ zs.length ≤ i + k
  · rw [if_pos e]
  · rw [if_neg e]; congr 1; omega

end Go.Proofs.YtabmckjlmpajoaaDoor
