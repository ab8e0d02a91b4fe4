
/- Plain numbers: the document's answer by blocks is that of the code. -/
import Derived.Test.YtnankgophbjioaaDoorShaG
namespace Go.Proofs.YtnankgophbjioaaDoor

theorem big_same4 (l : List Int) (hb : ByteL l) : big 18446744073709551616 (pad l 4) = big 4294967296 (pad l 4) := by
  have h0 := hb.get 0
  have h1 := hb.get 1
  have h2 := hb.get 2
  have h3 := hb.get 3
  simp only [pad, big, show List.range 4 = [0, 1, 2, 3] from rfl, List.map_cons, List.map_nil, List.foldl_cons, List.foldl_nil]
  omega
/-- A block's number, read out of the whole text. -/
theorem word_at (P : List Int) (hb : ByteL P) (k t : Nat) (ht : t < 16) : big 18446744073709551616 (pad (P.drop (64 * k + 4 * t)) 4) % 4294967296 = word (blkAt P k) t := by
  rw [big_same4 _ (byte_drop hb _), Int.emod_eq_of_lt (big_range _ _ (by decide)).1 (big_range _ _ (by decide)).2]
  unfold word
  congr 1
  apply List.ext_getElem
  · simp [length_pad]
  · intro i h1 h2
    rw [length_pad] at h1
    simp only [pad, List.getElem_map, List.getElem_range, getD_drop, blkAt]
    rw [getD_take _ _ _ (by omega), getD_drop]
    congr 1; omega
/-- The end's zeros. -/
theorem zeros_end (n j z : Nat) (hz : ((55 - (n : Int)) % 64).toNat = z) (hj : j ≤ z) : (n + 1 + j) % 64 = 56 ↔ j = z := by
  have : (z : Int) = (55 - (n : Int)) % 64 := by omega
  omega
theorem be8_step (x : Int) (m : Nat) (hm : m < 8) : ((le 8 x).reverse.take (8 - (m + 1))) ++ [x / 256 ^ m % 256] = (le 8 x).reverse.take (8 - m) := by
  have hl : (le 8 x).reverse.length = 8 := by rw [List.length_reverse, length_le]
  have h := take_snoc (le 8 x).reverse (8 - (m + 1)) (by omega)
  rw [show 8 - (m + 1) + 1 = 8 - m by omega] at h
  rw [h]
  congr 2
  rw [List.getD_eq_getElem?_getD, List.getElem?_reverse (by rw [length_le]; omega), length_le, show 8 - 1 - (8 - (m + 1)) = m by omega]
  simp [le, hm]
theorem be4_eq (x : Int) : be4 x = [x / 16777216 % 256, x / 65536 % 256, x / 256 % 256, x % 256] := by
  simp [be4, le, List.range_succ]
theorem be4_eq' (x : Int) (h0 : 0 ≤ x) (h1 : x < 4294967296) : be4 x = [x / 16777216, x / 65536 % 256, x / 256 % 256, x % 256] := by
  rw [be4_eq, Int.emod_eq_of_lt (by omega) (by omega)]
theorem length_padded (l : List Int) : (padded l).length % 64 = 0 := by
  unfold padded endL
  simp only [List.length_append, List.length_cons, List.length_replicate, List.length_reverse, length_le]
  omega
theorem byte_padded {l : List Int} (h : ByteL l) : ByteL (padded l) := byte_append h (byte_end _)
end Go.Proofs.YtnankgophbjioaaDoor
