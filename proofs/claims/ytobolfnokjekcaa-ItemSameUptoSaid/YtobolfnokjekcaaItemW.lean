
/- The law's awake: the document's example. -/
import Derived.Test.YtobolfnokjekcaaItemV
namespace Go.Proofs.Ytobolfnokjekcaa
open Go.RowKit

def exI1 : It := .mk 0 1 ⟨#[]⟩ []
def exI2 : It := .mk 5 0 ⟨#[]⟩ []
def exI : It := .mk 4 0 ⟨#[]⟩ [exI1, exI2]
theorem exI_items : exI.items 1 = [(1, exI), (2, exI1), (2, exI2)] := by
  simp [exI, exI1, exI2, It.items, itemsL]
theorem exI_count : exI.count = 3 := by simp [exI, exI1, exI2, It.count, countL]
theorem exI_depth : exI.depth = 2 := by
  unfold It.depth
  rw [exI_items]
  rfl
theorem noText_empty : (⟨#[]⟩ : ByteArray).toList.isEmpty = true := by
  rw [ByteArray.toList_eq]
  rfl
theorem twiceB_nil : twiceB [] = false := by
  rw [twiceB_false]
  rintro ⟨i, j, hi, hj, _⟩
  simp [evens] at hj
theorem wrongI_ok {t : It} (h1 : formB t = true) (h2 : rangB t = true) (h3 : t.k ≠ 3) (h5 : t.k = 5 → twiceB t.l = false) : wrongI t = 0 := by
  unfold wrongI
  rw [if_neg (by rw [h1]; simp), if_neg (by rw [h2]; simp), if_neg (fun h => h3 h.1), if_neg (fun h => by rw [h5 h.1] at h; exact absurd h.2 (by simp))]
theorem exI_wrong : wrongI exI = 0 := wrongI_ok (by
  show formK 4 true (ByteArray.toList ⟨#[]⟩).isEmpty 2 = true
  rw [noText_empty]
  rfl) rfl (by decide) (fun h => absurd h (by decide))
theorem exI1_wrong : wrongI exI1 = 0 := wrongI_ok (by
  show formK 0 false (ByteArray.toList ⟨#[]⟩).isEmpty 0 = true
  rw [noText_empty]
  rfl) rfl (by decide) (fun h => absurd h (by decide))
theorem exI2_wrong : wrongI exI2 = 0 := wrongI_ok (by
  show formK 5 true (ByteArray.toList ⟨#[]⟩).isEmpty 0 = true
  rw [noText_empty]
  rfl) rfl (by decide) (fun _ => twiceB_nil)
theorem exI_check : checkR wrongI exI = 0 := by
  unfold checkR
  rw [exI_depth, exI_items, if_neg (by omega)]
  simp only [List.map_cons, List.map_nil, exI_wrong, exI1_wrong, exI2_wrong]
  rfl
/-- The example in memory. -/
theorem exI_at {w : World} {g : Nat} (h : Blk w g 25 #[.int .i64 0, .int .u64 1, .string ⟨#[]⟩, .slice none 0 0, .int .i64 5, .int .u64 0, .string ⟨#[]⟩, .slice none 0 0]) : AtB w (g + 1) exI (some ⟨g, 0, none⟩) 2 := by
  refine ⟨by simp [exI, It.l], (fun h => by cases h), ?_⟩
  refine AtL.mk (by omega) h.lt (At1.mk none 0 (by rw [h.cell]; rfl) (by rw [h.cell]; rfl) (by rw [h.cell]; rfl) (by rw [h.cell]; rfl) (by simp [exI1, It.l]) (fun _ => rfl) (AtL.nil _)) ?_
  refine AtL.mk (by omega) h.lt (At1.mk none 0 (by rw [h.cell]; rfl) (by rw [h.cell]; rfl) (by rw [h.cell]; rfl) (by rw [h.cell]; rfl) (by simp [exI2, It.l]) (fun _ => rfl) (AtL.nil _)) (AtL.nil _)
theorem exI_ok {d : Nat} {t : It} (h : (d, t) ∈ exI.items 1) : 0 ≤ t.n ∧ t.n < 18446744073709551616 ∧ t.s.size ≤ 1000000000 ∧ (t.k = 5 → t = exI2) := by
  rw [exI_items] at h
  simp only [List.mem_cons, Prod.mk.injEq, List.not_mem_nil, or_false] at h
  rcases h with ⟨_, rfl⟩ | ⟨_, rfl⟩ | ⟨_, rfl⟩
  · exact ⟨by decide, by decide, by decide, fun h => absurd h (by decide)⟩
  · exact ⟨by decide, by decide, by decide, fun h => absurd h (by decide)⟩
  · exact ⟨by decide, by decide, by decide, fun _ => rfl⟩

set_option maxRecDepth 100000 in
set_option maxHeartbeats 4000000 in
theorem item_awake (w : World) : Calls Try.prog 5 #[] w fun e w' => e = .returned (.bool true) ∧ Below w.heap.size w w' := by
  have CD := fun W (hn : w.heap.size + 1 ≤ W.heap.size) (h : AtB W (w.heap.size + 1) exI (some ⟨w.heap.size, 0, none⟩) 2) => item_Depth exI _ 2 (w.heap.size + 1) W (by rw [exI_count]; omega) hn h
  have CS := fun W (hn : w.heap.size + 1 ≤ W.heap.size) (h : AtB W (w.heap.size + 1) exI (some ⟨w.heap.size, 0, none⟩) 2) => item_Size exI _ 2 (w.heap.size + 1) W (by rw [exI_count]; omega) hn h
  have CC := fun W (hn : w.heap.size + 1 ≤ W.heap.size) (h : AtB W (w.heap.size + 1) exI (some ⟨w.heap.size, 0, none⟩) 2) => item_Check exI _ 2 (w.heap.size + 1) W wrongI (by rw [exI_count]; omega) hn h
    (fun d t A cap W1 hm hn1 hat => by
      obtain ⟨h1, h2, h3, h4⟩ := exI_ok hm
      exact item_checkOne t A cap _ W1 h1 h2 h3 hn1 hat fun hk W2 hn2 _ => by
        obtain rfl := h4 hk
        rw [show twiceB exI2.l = false from twiceB_nil]
        exact (twice0 A cap W2).mono fun e w' ⟨h1, h2⟩ => ⟨h1, by rw [h2]; exact Below.refl _ _⟩)
  rw [exI_depth] at CD
  rw [exI_count] at CS
  rw [exI_check] at CC
  obtain ⟨w2, hw2, b1, b2, S⟩ := iblk2 w 25 #[.int .i64 0, .int .u64 1, .string ⟨#[]⟩, .slice none 0 0, .int .i64 5, .int .u64 0, .string ⟨#[]⟩, .slice none 0 0] #[.int .i64 4, .int .u64 0, .string ⟨#[]⟩, .slice (some ⟨w.heap.size, 0, none⟩) 2 2]
  obtain ⟨p0, p1, p2, p3, -⟩ := iblk b2
  have hsz : w.heap.size + 2 ≤ w2.heap.size := by rw [← hw2]; simp
  have CD2 := fun W (hb : Below w2.heap.size w2 W) => CD W (by have := hb.size; omega) ((exI_at b1).keep (hb.mono (by omega)))
  have CS2 := fun W (hb : Below w2.heap.size w2 W) => CS W (by have := hb.size; omega) ((exI_at b1).keep (hb.mono (by omega)))
  have CC2 := fun W (hb : Below w2.heap.size w2 W) => CC W (by have := hb.size; omega) ((exI_at b1).keep (hb.mono (by omega)))
  simp only [vI, exI, It.k, It.n, It.s, It.l, List.length_cons, List.length_nil, Nat.reduceAdd] at CD2 CS2 CC2
  have HD := Lib.hid CD2
  have HSI := Lib.hid CS2
  have HCK := Lib.hid CC2
  have HS := Lib.hid S
  have carry : ∀ W, Below w2.heap.size w2 W → W.cell? ⟨w.heap.size + 1, 0, none⟩ = some (.int .i64 4) ∧ W.cell? ⟨w.heap.size + 1, 1, none⟩ = some (.int .u64 0) ∧ W.cell? ⟨w.heap.size + 1, 2, none⟩ = some (.string ⟨#[]⟩) ∧ W.cell? ⟨w.heap.size + 1, 3, none⟩ = some (.slice (some ⟨w.heap.size, 0, none⟩) 2 2) := fun W hb =>
    ⟨(hb.cell (p := ⟨w.heap.size + 1, 0, none⟩) (block_lt_of_cell p0)).trans p0, (hb.cell (p := ⟨w.heap.size + 1, 1, none⟩) (block_lt_of_cell p1)).trans p1, (hb.cell (p := ⟨w.heap.size + 1, 2, none⟩) (block_lt_of_cell p2)).trans p2, (hb.cell (p := ⟨w.heap.size + 1, 3, none⟩) (block_lt_of_cell p3)).trans p3⟩
  have HCY := Lib.hid carry
  clear CD CS CC CD2 CS2 CC2 S b1 b2 hsz carry
  go_enter Try.func5, Try.ntmps5
  go_wp2_with (first
    | (go_at_call 9; refine (HD.out w2 (Below.refl _ _)).mono ?_; rintro e w3 ⟨rfl, hb3⟩; obtain ⟨r0, r1, r2, r3⟩ := HCY.out w3 hb3; have HB3 := Lib.hid hb3; clear hb3)
    | (go_at_call 11; refine (HSI.out w3 HB3.out).mono ?_; rintro e w4 ⟨rfl, hb4⟩; have hb4' := HB3.out.trans (hb4.mono HB3.out.size); obtain ⟨s0, s1, s2, s3⟩ := HCY.out w4 hb4'; have HB4 := Lib.hid hb4'; clear hb4 hb4')
    | (go_at_call 12; refine (HCK.out w4 HB4.out).mono ?_; rintro e w5 ⟨rfl, hb5⟩; have HB5 := Lib.hid (HB4.out.trans (hb5.mono HB4.out.size)); clear hb5))
  go_ret
  exact ⟨rfl, HS.out.trans (HB5.out.mono HS.out.size)⟩
end Go.Proofs.Ytobolfnokjekcaa
