/- Plain lists: the first k of one and the rest of another; filled up; bytes. -/
import Derived.Test.YtabmckjlmpajoaaDoorKAY
import Derived.Test.YtabmckjlmpajoaaDoorKAL
import Derived.Test.YtabmckjlmpajoaaDoorKAN
namespace Go.Proofs.YtabmckjlmpajoaaDoor
open Go.RowKit

/-- The first k of l, the rest of m. -/
def upto (l m : List Int) (k : Nat) : List Int := l.take k ++ m.drop k
theorem upto_zero (l m : List Int) : upto l m 0 = m := by simp [upto]
theorem upto_all (l m : List Int) (h : l.length = m.length) : upto l m m.length = l := by simp [upto, ← h]
theorem length_upto (l m : List Int) (k : Nat) (h : l.length = m.length) : (upto l m k).length = m.length := by simp [upto]; omega
theorem upto_set (l m : List Int) (k : Nat) (h : l.length = m.length) (hk : k < m.length) : (upto l m k).set k (l.getD k 0) = upto l m (k + 1) := by
  unfold upto
  rw [List.set_append_right _ _ (by simp [List.length_take]; omega), List.length_take, show k - min k l.length = 0 by omega, List.drop_eq_getElem_cons hk, List.set_cons_zero, take_snoc l k (by omega), List.append_assoc]
  rfl
theorem getD_upto_ge (l m : List Int) (k i : Nat) (h : l.length = m.length) (hi : k ≤ i) (hk : k ≤ m.length) : (upto l m k).getD i 0 = m.getD i 0 := by
  simp only [upto, List.getD_eq_getElem?_getD, List.getElem?_append, List.length_take, List.getElem?_drop]
  rw [if_neg (by omega), show k + (i - min k l.length) = i by omega]
theorem getD_upto_lt (l m : List Int) (k i : Nat) (hi : i < k) (hk : k ≤ l.length) : (upto l m k).getD i 0 = l.getD i 0 := by
  simp only [upto, List.getD_eq_getElem?_getD, List.getElem?_append, List.length_take, List.getElem?_take]
  rw [if_pos (by omega), if_pos hi]
theorem pad_set (l : List Int) (n : Nat) (x : Int) (_h : l.length < n) : (pad l n).set l.length x = pad (l ++ [x]) n := by
  apply List.ext_getElem
  · simp [length_pad]
  · intro i h1 h2
    simp only [List.length_set, length_pad] at h1
    simp only [List.getElem_set, pad, List.getElem_map, List.getElem_range, List.getD_eq_getElem?_getD]
    by_cases e : l.length = i
    · rw [if_pos e]; subst e; simp
    · rw [if_neg e]
      by_cases e2 : i < l.length
      · rw [List.getElem?_append_left e2]
      · rw [List.getElem?_eq_none (by omega), List.getElem?_eq_none (by simp; omega)]
theorem getD_pad (l : List Int) (n i : Nat) (h : i < n) : (pad l n).getD i 0 = l.getD i 0 := by
  simp [pad, List.getD_eq_getElem?_getD, h]
theorem byte_drop {l : List Int} (h : ByteL l) (n : Nat) : ByteL (l.drop n) := fun c hc => h c (List.mem_of_mem_drop hc)
theorem byte_pad' {l : List Int} (h : ByteL l) (n : Nat) : ByteL (pad l n) := h.pad n
theorem byte_append {a b : List Int} (ha : ByteL a) (hb : ByteL b) : ByteL (a ++ b) := fun c hc => by
  rcases List.mem_append.1 hc with h | h
  · exact ha c h
  · exact hb c h
theorem byte_take {l : List Int} (h : ByteL l) (n : Nat) : ByteL (l.take n) := fun c hc => h c (List.mem_of_mem_take hc)
/-- What copy lays into the block. -/
theorem pad_copy (n : Nat) (r m : List Int) (h : r.length + m.length ≤ n) : (pad r n).take r.length ++ m ++ (pad r n).drop (r.length + m.length) = pad (r ++ m) n := by
  apply List.ext_getElem?
  intro i
  have e : ∀ (a : List Int) (j : Nat), (pad a n)[j]? = if j < n then some (a.getD j 0) else none := fun a j => by
    by_cases hj : j < n
    · rw [if_pos hj]; simp [pad, hj]
    · rw [if_neg hj]; exact List.getElem?_eq_none (by rw [length_pad]; omega)
  simp only [List.getElem?_append, List.length_append, List.length_take, length_pad, List.getElem?_take, List.getElem?_drop, e, List.getD_eq_getElem?_getD]
  by_cases h1 : i < r.length
  · rw [if_pos (by omega), if_pos (by omega), if_pos h1, if_pos (by omega), if_pos (by omega), if_pos h1]
  · by_cases h2 : i < r.length + m.length
    · rw [if_pos (by omega), if_neg (by omega), if_pos (by omega), if_neg h1, show min r.length n = r.length by omega]
      rw [List.getElem?_eq_getElem (by omega)]
      simp
    · rw [if_neg (by omega), if_neg h1, show r.length + m.length + (i - (min r.length n + m.length)) = i by omega]
      by_cases h3 : i < n
      · rw [if_pos h3, if_pos h3, List.getElem?_eq_none (by omega), List.getElem?_eq_none (by omega)]
      · rw [if_neg h3, if_neg h3]
theorem cell_same {w w' : World} (b o : Nat) (h : w'.heap[b]? = w.heap[b]?) : w'.cell? ⟨b, o, none⟩ = w.cell? ⟨b, o, none⟩ := by
  simp [World.cell?, h]
def sliceLen : Value → Nat
  | .slice _ n _ => n
  | _ => 0

theorem info5 : (Tryd.prog.info? 5).map (fun i => (i.zero, i.size, i.bytes)) = some (some (.int .u8 0), 1, 1) := by kernel_rfl
theorem made_zeros (n : Nat) : madeCells #[Value.int .u8 0] n = nums .u8 (List.replicate n 0) := by
  apply Array.ext
  · simp [size_madeCells, nums]
  · intro i h1 h2
    simp [madeCells, nums, Nat.mod_one]
end Go.Proofs.YtabmckjlmpajoaaDoor
