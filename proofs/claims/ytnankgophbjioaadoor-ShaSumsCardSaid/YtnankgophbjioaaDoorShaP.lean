
/- Plain numbers: SHA-256 by blocks. -/
import Derived.Test.YtnankgophbjioaaDoorShaA
import Derived.Test.YtnankgophbjioaaDoorNum
namespace Go.Proofs.YtnankgophbjioaaDoor

def startL : List Int := [1779033703, 3144134277, 1013904242, 2773480762, 1359893119, 2600822924, 528734635, 1541459225]
def rootsL : List Int := [1116352408, 1899447441, 3049323471, 3921009573, 961987163, 1508970993, 2453635748, 2870763221, 3624381080, 310598401, 607225278, 1426881987, 1925078388, 2162078206, 2614888103, 3248222580, 3835390401, 4022224774, 264347078, 604807628, 770255983, 1249150122, 1555081692, 1996064986, 2554220882, 2821834349, 2952996808, 3210313671, 3336571891, 3584528711, 113926993, 338241895, 666307205, 773529912, 1294757372, 1396182291, 1695183700, 1986661051, 2177026350, 2456956037, 2730485921, 2820302411, 3259730800, 3345764771, 3516065817, 3600352804, 4094571909, 275423344, 430227734, 506948616, 659060556, 883997877, 958139571, 1322822218, 1537002063, 1747873779, 1955562222, 2024104815, 2227730452, 2361852424, 2428436474, 2756734187, 3204031479, 3329325298]
/-- Sums modulo 2^32, one by one. -/
def addL (a b : List Int) : List Int := List.zipWith (fun x y => (x + y) % 4294967296) a b
theorem length_addL (a b : List Int) (h : a.length = b.length) : (addL a b).length = a.length := by simp [addL, h]
theorem inL_addL (a b : List Int) : InL (addL a b) := by
  intro c hc
  obtain ⟨i, hi, rfl⟩ := List.mem_iff_getElem.1 hc
  simp only [addL, List.getElem_zipWith]
  omega
theorem InL.get {l : List Int} (h : InL l) (k : Nat) : 0 ≤ l.getD k 0 ∧ l.getD k 0 < 4294967296 := by
  by_cases hk : k < l.length
  · have : l.getD k 0 = l[k] := by simp [List.getD, hk]
    rw [this]; exact h _ (List.getElem_mem _)
  · have : l.getD k 0 = 0 := by simp [List.getD, List.getElem?_eq_none (Nat.le_of_not_lt hk)]
    rw [this]; decide
theorem getD_addL (a b : List Int) (k : Nat) (ha : k < a.length) (hb : k < b.length) : (addL a b).getD k 0 = (a.getD k 0 + b.getD k 0) % 4294967296 := by
  simp [addL, List.getD_eq_getElem?_getD, List.getElem?_zipWith, ha, hb]
/-- The first k of l, the rest of m. -/
def upto (l m : List Int) (k : Nat) : List Int := l.take k ++ m.drop k
theorem upto_zero (l m : List Int) : upto l m 0 = m := by simp [upto]
theorem upto_all (l m : List Int) (h : l.length = m.length) : upto l m m.length = l := by simp [upto, ← h]
theorem length_upto (l m : List Int) (k : Nat) (h : l.length = m.length) : (upto l m k).length = m.length := by simp [upto]; omega
theorem upto_set (l m : List Int) (k : Nat) (h : l.length = m.length) (hk : k < m.length) : (upto l m k).set k (l.getD k 0) = upto l m (k + 1) := by
  unfold upto
  rw [List.set_append_right _ _ (by simp [List.length_take]; omega), List.length_take, show k - min k l.length = 0 by omega, List.drop_eq_getElem_cons hk, List.set_cons_zero, take_snoc l k (by omega), List.append_assoc]
  rfl
theorem getD_upto_ge (l m : List Int) (k i : Nat) (h : l.length = m.length) (hi : k ≤ i) (hk : k ≤ m.length) : (upto l m k).getD i 0 = m.getD i 0 := by
  simp only [upto, List.getD_eq_getElem?_getD, List.getElem?_append, List.length_take, List.getElem?_drop]
  rw [if_neg (by omega), show k + (i - min k l.length) = i by omega]
theorem getD_upto_lt (l m : List Int) (k i : Nat) (hi : i < k) (hk : k ≤ l.length) : (upto l m k).getD i 0 = l.getD i 0 := by
  simp only [upto, List.getD_eq_getElem?_getD, List.getElem?_append, List.length_take, List.getElem?_take]
  rw [if_pos (by omega), if_pos hi]
end Go.Proofs.YtnankgophbjioaaDoor
