
/- Plain numbers: digits of 32 bits, the least one first. -/
import Derived.Test.YtnankgophbjioaaDoorNum
namespace Go.Proofs.YtnankgophbjioaaDoor

/-- The number of digits. -/
def val : List Int → Int
  | [] => 0
  | d :: r => d + 4294967296 * val r
def B32 : Int := 4294967296
theorem val_append (a b : List Int) : val (a ++ b) = val a + B32 ^ a.length * val b := by
  induction a with
  | nil => simp [val]
  | cons d r ih =>
    simp only [List.cons_append, val, ih, List.length_cons, Int.pow_succ]
    have e : (B32 ^ r.length * B32) * val b = 4294967296 * (B32 ^ r.length * val b) := by
      rw [Int.mul_comm (B32 ^ r.length) B32, Int.mul_assoc]; rfl
    rw [e]; omega
theorem val_take (l : List Int) (i : Nat) (h : i < l.length) : val (l.take (i + 1)) = val (l.take i) + B32 ^ i * l.getD i 0 := by
  rw [take_snoc l i h, val_append]
  simp [val, show min i l.length = i by omega]
theorem val_set (l : List Int) : ∀ (k : Nat) (y : Int), k < l.length → val (l.set k (l.getD k 0 + y)) = val l + B32 ^ k * y := by
  induction l with
  | nil => intro k y h; simp at h
  | cons d r ih =>
    intro k y h
    cases k with
    | zero => simp [val]; omega
    | succ k =>
      have := ih k y (by simpa using h)
      simp only [List.set_cons_succ, List.getD_cons_succ, val, this, Int.pow_succ]
      have e : (B32 ^ k * B32) * y = 4294967296 * (B32 ^ k * y) := by rw [Int.mul_comm (B32 ^ k) B32, Int.mul_assoc]; rfl
      rw [e]; omega
/-- All digits lie between 0 and b. -/
def Upto (l : List Int) (b : Int) : Prop := ∀ i, 0 ≤ l.getD i 0 ∧ l.getD i 0 ≤ b
theorem getD_set' (l : List Int) (i j : Nat) (u : Int) : (l.set i u).getD j 0 = if i = j ∧ i < l.length then u else l.getD j 0 := by
  simp only [List.getD_eq_getElem?_getD, List.getElem?_set]
  by_cases e : i = j
  · subst e
    by_cases h : i < l.length
    · simp [h]
    · rw [if_pos rfl, if_neg h, if_neg (by simp [h]), List.getElem?_eq_none (by omega)]
  · rw [if_neg e, if_neg (by simp [e])]
theorem val_nonneg (l : List Int) (b : Int) (h : Upto l b) : 0 ≤ val l := by
  induction l with
  | nil => simp [val]
  | cons d r ih =>
    have h0 := (h 0).1
    have := ih fun i => by simpa using h (i + 1)
    simp only [List.getD_cons_zero] at h0
    simp only [val]; omega
theorem val_digit (l : List Int) (b : Int) (h : Upto l b) (i : Nat) : B32 ^ i * l.getD i 0 ≤ val l := by
  induction l generalizing i with
  | nil => simp [val]
  | cons d r ih =>
    have h0 := (h 0).1
    simp only [List.getD_cons_zero] at h0
    have hr : Upto r b := fun i => by simpa using h (i + 1)
    have hn := val_nonneg r b hr
    cases i with
    | zero => simp [val]; omega
    | succ i =>
      have := ih hr i
      simp only [List.getD_cons_succ, val, Int.pow_succ]
      have e : (B32 ^ i * B32) * r.getD i 0 = 4294967296 * (B32 ^ i * r.getD i 0) := by rw [Int.mul_comm (B32 ^ i) B32, Int.mul_assoc]; rfl
      rw [e]; omega
/-- A digit above the number is 0. -/
theorem digit_zero (l : List Int) (b : Int) (h : Upto l b) (i : Nat) (hv : val l < B32 ^ i) : l.getD i 0 = 0 := by
  have h1 := val_digit l b h i
  have h2 := (h i).1
  have hp : (0 : Int) < B32 ^ i := Int.pow_pos (by decide)
  rcases Int.lt_or_le 0 (l.getD i 0) with h3 | h3
  · have h4 : B32 ^ i * 1 ≤ B32 ^ i * l.getD i 0 := Int.mul_le_mul_of_nonneg_left (by omega) (by omega)
    omega
  · omega
theorem val7 (l : List Int) (h : l.length = 7) : val l = l.getD 0 0 + 4294967296 * (l.getD 1 0 + 4294967296 * (l.getD 2 0 + 4294967296 * (l.getD 3 0 + 4294967296 * (l.getD 4 0 + 4294967296 * (l.getD 5 0 + 4294967296 * l.getD 6 0))))) := by
  match l, h with
  | [a, b, c, d, e, f, g], _ => simp [val]
theorem Upto.set {l : List Int} {b c : Int} (h : Upto l b) (k : Nat) (u : Int) (hbc : b ≤ c) (h0 : 0 ≤ u) (h1 : u ≤ c) : Upto (l.set k u) c := fun i => by
  rw [getD_set']
  split
  · exact ⟨h0, h1⟩
  · exact ⟨(h i).1, Int.le_trans (h i).2 hbc⟩
theorem Upto.mono {l : List Int} {b c : Int} (h : Upto l b) (hbc : b ≤ c) : Upto l c := fun i => ⟨(h i).1, Int.le_trans (h i).2 hbc⟩
end Go.Proofs.YtnankgophbjioaaDoor
