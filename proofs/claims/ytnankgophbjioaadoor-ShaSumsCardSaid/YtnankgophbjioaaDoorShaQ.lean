
/- Plain numbers: SHA-256 of what was handed. -/
import Derived.Test.YtnankgophbjioaaDoorShaD
import Derived.Test.YtnankgophbjioaaDoorCut
namespace Go.Proofs.YtnankgophbjioaaDoor

def zerosA : List Int := [0, 0, 0, 0, 0, 0, 0, 0]
/-- The k-th block of 64 bytes. -/
def blkAt (l : List Int) (k : Nat) : List Int := (l.drop (64 * k)).take 64
/-- What the first k blocks add to the start. -/
def ad (l : List Int) : Nat → List Int
  | 0 => zerosA
  | k + 1 => addL (ad l k) (rounds (sched (blkAt l k) 64) (addL startL (ad l k)) 64)
theorem ad_zero (l : List Int) : ad l 0 = zerosA := rfl
theorem ad_succ (l : List Int) (k : Nat) : ad l (k + 1) = addL (ad l k) (rounds (sched (blkAt l k) 64) (addL startL (ad l k)) 64) := rfl
theorem length_ad (l : List Int) : ∀ k, (ad l k).length = 8
  | 0 => rfl
  | k + 1 => by
    have := length_ad l k
    rw [ad_succ, length_addL _ _ (by rw [length_rounds, length_addL _ _ (by rw [this]; rfl), this]; rfl), this]
theorem inL_ad (l : List Int) : ∀ k, InL (ad l k)
  | 0 => by rw [ad_zero]; unfold InL zerosA; decide
  | k + 1 => by rw [ad_succ]; exact inL_addL _ _
attribute [irreducible] ad
/-- The state behind the first k blocks. -/
def hs (l : List Int) (k : Nat) : List Int := addL startL (ad l k)
theorem length_hs (l : List Int) (k : Nat) : (hs l k).length = 8 := by unfold hs; rw [length_addL _ _ (by rw [length_ad]; rfl)]; rfl
theorem hs_zero (l : List Int) : hs l 0 = startL := by unfold hs; rw [ad_zero]; decide
theorem addL_assoc (a b c : List Int) : addL (addL a b) c = addL a (addL b c) := by
  unfold addL
  apply List.ext_getElem?
  intro i
  simp only [List.getElem?_zipWith]
  cases a[i]? <;> cases b[i]? <;> cases c[i]? <;> simp
  omega
theorem hs_succ (l : List Int) (k : Nat) : hs l (k + 1) = addL (hs l k) (rounds (sched (blkAt l k) 64) (hs l k) 64) := by
  unfold hs
  rw [ad_succ, addL_assoc]
theorem blkAt_append (l m : List Int) (k : Nat) (h : 64 * (k + 1) ≤ l.length) : blkAt (l ++ m) k = blkAt l k := by
  unfold blkAt
  rw [List.drop_append_of_le_length (by omega), List.take_append_of_le_length (by rw [List.length_drop]; omega)]
theorem length_blkAt (l : List Int) (k : Nat) (h : 64 * (k + 1) ≤ l.length) : (blkAt l k).length = 64 := by
  unfold blkAt
  rw [List.length_take, List.length_drop]; omega
theorem ad_append (l m : List Int) : ∀ k, 64 * k ≤ l.length → ad (l ++ m) k = ad l k
  | 0, _ => by rw [ad_zero, ad_zero]
  | k + 1, h => by rw [ad_succ, ad_succ, ad_append l m k (by omega), blkAt_append l m k h]
theorem hs_append (l m : List Int) (k : Nat) (h : 64 * k ≤ l.length) : hs (l ++ m) k = hs l k := by unfold hs; rw [ad_append l m k h]
/-- What of l is behind its last whole block. -/
def rest (l : List Int) : List Int := l.drop (64 * (l.length / 64))
theorem length_rest (l : List Int) : (rest l).length = l.length % 64 := by unfold rest; rw [List.length_drop]; omega
/-- The cells of a digest that was handed l. -/
def cellsOf (l : List Int) : Array Value := digC (ad l (l.length / 64)) (pad (rest l) 64) l.length

/-- Fewer bytes than a block still wants are laid behind. -/
theorem rest_short (l m : List Int) (h : l.length % 64 + m.length < 64) : rest (l ++ m) = rest l ++ m ∧ (l ++ m).length / 64 = l.length / 64 := by
  have e : (l ++ m).length / 64 = l.length / 64 := by rw [List.length_append]; omega
  refine ⟨?_, e⟩
  unfold rest
  rw [e, List.drop_append_of_le_length (by omega)]
theorem rest_full (l m : List Int) (h : l.length % 64 + m.length = 64) : rest (l ++ m) = [] ∧ (l ++ m).length / 64 = l.length / 64 + 1 ∧ blkAt (l ++ m) (l.length / 64) = rest l ++ m := by
  have e : (l ++ m).length / 64 = l.length / 64 + 1 := by rw [List.length_append]; omega
  refine ⟨?_, e, ?_⟩
  · unfold rest
    rw [e, List.drop_eq_nil_of_le (by rw [List.length_append]; omega)]
  · unfold blkAt rest
    rw [List.drop_append_of_le_length (by omega), List.take_of_length_le (by rw [List.length_append, List.length_drop]; omega)]
theorem cells_short (l m : List Int) (h : l.length % 64 + m.length < 64) : cellsOf (l ++ m) = digC (ad l (l.length / 64)) (pad (rest l ++ m) 64) (l ++ m).length := by
  obtain ⟨h1, h2⟩ := rest_short l m h
  unfold cellsOf
  rw [h1, h2, ad_append l m _ (by omega)]
theorem cells_full (l m : List Int) (h : l.length % 64 + m.length = 64) :
    cellsOf (l ++ m) = digC (addL (ad l (l.length / 64)) (rounds (sched (rest l ++ m) 64) (addL startL (ad l (l.length / 64))) 64)) (pad [] 64) (l ++ m).length := by
  obtain ⟨h1, h2, h3⟩ := rest_full l m h
  unfold cellsOf
  rw [h1, h2, ad_succ, ad_append l m _ (by omega), h3]
/-- What copy lays into the block. -/
theorem pad_copy (r m : List Int) (h : r.length + m.length ≤ 64) : (pad r 64).take r.length ++ m ++ (pad r 64).drop (r.length + m.length) = pad (r ++ m) 64 := by
  apply List.ext_getElem?
  intro i
  have e : ∀ (a : List Int) (j : Nat), (pad a 64)[j]? = if j < 64 then some (a.getD j 0) else none := fun a j => by
    by_cases hj : j < 64
    · rw [if_pos hj]; simp [pad, hj]
    · rw [if_neg hj]; exact List.getElem?_eq_none (by rw [length_pad]; omega)
  simp only [List.getElem?_append, List.length_append, List.length_take, length_pad, List.getElem?_take, List.getElem?_drop, e, List.getD_eq_getElem?_getD]
  by_cases h1 : i < r.length
  · rw [if_pos (by omega), if_pos (by omega), if_pos h1, if_pos (by omega), if_pos (by omega), if_pos h1]
  · by_cases h2 : i < r.length + m.length
    · rw [if_pos (by omega), if_neg (by omega), if_pos (by omega), if_neg h1, show min r.length 64 = r.length by omega]
      rw [List.getElem?_eq_getElem (by omega)]
      simp
    · rw [if_neg (by omega), if_neg h1, show r.length + m.length + (i - (min r.length 64 + m.length)) = i by omega]
      by_cases h3 : i < 64
      · rw [if_pos h3, if_pos h3, List.getElem?_eq_none (by omega), List.getElem?_eq_none (by omega)]
      · rw [if_neg h3, if_neg h3]
theorem byte_pad' {l : List Int} (h : ByteL l) (n : Nat) : ByteL (pad l n) := h.pad n
theorem byte_append {a b : List Int} (ha : ByteL a) (hb : ByteL b) : ByteL (a ++ b) := fun c hc => by
  rcases List.mem_append.1 hc with h | h
  · exact ha c h
  · exact hb c h
theorem byte_take {l : List Int} (h : ByteL l) (n : Nat) : ByteL (l.take n) := fun c hc => h c (List.mem_of_mem_take hc)
theorem byte_rest {l : List Int} (h : ByteL l) : ByteL (rest l) := byte_drop h _
end Go.Proofs.YtnankgophbjioaaDoor
