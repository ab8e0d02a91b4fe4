/- The contracts of package bits' calls on bytes. -/
import Derived.Test.YtgbbgdjdomkohaaGreatKAI
import Derived.Laws.IdiomCopy
import Derived.Test.YtgbbgdjdomkohaaGreatKAB
import Derived.Laws.OwnMore
import Derived.Laws.MakeOwn
import Derived.OwnWalk
namespace Go.Proofs.YtgbbgdjdomkohaaGreat
open Go.RowKit

theorem setRow_fresh (w : World) (cs cs' : Array Value) (t : TypeId) : (w.alloc (.cells cs t)).setRow w.heap.size cs' = w.alloc (.cells cs' t) := by
  unfold World.setRow World.alloc
  simp only []
  congr 1
  apply Array.ext
  · simp
  · intro i h1 h2
    simp only [Array.getElem_modify, Array.getElem_push]
    by_cases e : i < w.heap.size
    · rw [if_neg (by omega)]; simp [e]
    · have e2 : w.heap.size = i := by simp at h1; omega
      simp [e2]
theorem pad_take (zs : List Int) (n : Nat) : pad zs n = zs.take n ++ List.replicate (n - zs.length) 0 := by
  apply ext_getD
  · simp [length_pad]; omega
  · intro i hi
    rw [length_pad] at hi
    have e1 : (pad zs n).getD i 0 = zs.getD i 0 := by simp [pad, List.getD_eq_getElem?_getD, hi]
    rw [e1]
    simp only [List.getD_eq_getElem?_getD, List.getElem?_append, List.length_take, List.getElem?_take, List.getElem?_replicate]
    by_cases e : i < zs.length
    · rw [if_pos (by omega), if_pos hi]
    · rw [if_neg (by omega), List.getElem?_eq_none (by omega)]
      split <;> rfl

/-- copy of the numbers zs into a new block of n zeros. -/
theorem copy_pad (P : Program) (w : World) (dT sT ty elem t : TypeId) (n cap : Nat) (A : Option Addr) (zs : List Int) (hu : P.underlying dT = some (.slice elem)) (hs : (P.info? elem).map (·.size) = some 1)
    (hr : Rd w w.heap.size .u8 A zs) :
    (Builtin.copy_ #[dT, sT] ty #[.slice (some ⟨w.heap.size, 0, none⟩) n n, .slice A zs.length cap]).run P (w.alloc (.cells (nums .u8 (List.replicate n 0)) t)) =
      .ok (goInt (Nat.min zs.length n)) (w.alloc (.cells (nums .u8 (pad zs n)) t)) := by
  by_cases h0 : Nat.min zs.length n = 0
  · rw [run_copy_none _ dT sT ty elem _ _ _ _ _ _ hu hs h0, h0, pad_take]
    have h0' : min zs.length n = 0 := h0
    have e : zs.take n = [] := List.eq_nil_of_length_eq_zero (by rw [List.length_take]; omega)
    rw [e, List.nil_append]
    rcases Nat.eq_zero_or_pos n with hn | hn
    · subst hn; simp
    · rw [show n - zs.length = n by omega]; rfl
  · have h0' : min zs.length n ≠ 0 := h0
    obtain ⟨b, o, rfl, hb, hc⟩ := hr (by omega)
    have hlen : (zs.take n).length = Nat.min zs.length n := by rw [List.length_take]; exact Nat.min_comm _ _
    have hg : (w.alloc (.cells (nums .u8 (List.replicate n 0)) t)).heap[w.heap.size]? = some (.cells (nums .u8 (List.replicate n 0)) t (0, 0)) := Blk.fresh w t _
    rw [run_copy_row (P := P) _ dT sT ty elem w.heap.size 0 n n ⟨b, o, none⟩ zs.length cap _ t ((zs.take n).map (Value.int .u8)) hu hs hg (by rw [List.length_map]; exact hlen) ?_ ?_ ?_]
    · rw [List.length_map, hlen, setRow_fresh, pad_take]
      congr 4
      simp only [nums, List.take_zero, List.nil_append, Nat.zero_add, List.map_append, List.map_replicate, List.drop_replicate]
      rw [show n - Nat.min zs.length n = n - zs.length by show n - min zs.length n = _; omega]
    · intro j v hj
      rw [List.getElem?_map] at hj
      have hj' : j < (zs.take n).length := by
        rcases Nat.lt_or_ge j (zs.take n).length with h | h
        · exact h
        · rw [List.getElem?_eq_none h] at hj; cases hj
      rw [List.length_take] at hj'
      have hv := hc j (by omega)
      rw [World.cell?_alloc_lt _ _ _ (by simp [Addr.add]; split <;> simpa using hb)]
      rw [List.getElem?_take, if_pos (by omega)] at hj
      have e : zs[j]? = some (zs.getD j 0) := by simp [List.getD_eq_getElem?_getD, show j < zs.length by omega]
      rw [e] at hj
      simp only [Option.map_some, Option.some.injEq] at hj
      subst hj
      rw [← hv]
      congr 1
      unfold Addr.add
      split
      · rename_i h; subst h; rfl
      · rfl
    · simp [nums, List.length_take]; omega
    · intro v hv
      rw [List.mem_map] at hv
      obtain ⟨c, _, rfl⟩ := hv
      rfl

theorem elem_one : (Tryz.prog.info? 5).map (·.size) = some 1 := by kernel_rfl
theorem zeros4 : nums .u8 (List.replicate 4 0) = #[.int .u8 0, .int .u8 0, .int .u8 0, .int .u8 0] := rfl
theorem zeros8 : nums .u8 (List.replicate 8 0) = #[.int .u8 0, .int .u8 0, .int .u8 0, .int .u8 0, .int .u8 0, .int .u8 0, .int .u8 0, .int .u8 0] := rfl
theorem make4 (w : World) : (Instr.makeSlice 46 (.int .i64 4) (.int .i64 4)).run Tryz.prog w = .ok (.slice (some ⟨w.heap.size, 0, none⟩) 4 4) (w.alloc (.cells #[.int .u8 0, .int .u8 0, .int .u8 0, .int .u8 0] 5)) := by kernel_rfl
theorem make8 (w : World) : (Instr.makeSlice 46 (.int .i64 8) (.int .i64 8)).run Tryz.prog w = .ok (.slice (some ⟨w.heap.size, 0, none⟩) 8 8) (w.alloc (.cells #[.int .u8 0, .int .u8 0, .int .u8 0, .int .u8 0, .int .u8 0, .int .u8 0, .int .u8 0, .int .u8 0] 5)) := by kernel_rfl
theorem blk4 (w : World) (t : TypeId) : Blk (w.alloc (.cells #[.int .u8 0, .int .u8 0, .int .u8 0, .int .u8 0] t)) w.heap.size t (nums .u8 (List.replicate 4 0)) := Blk.fresh w t _
theorem blk8 (w : World) (t : TypeId) : Blk (w.alloc (.cells #[.int .u8 0, .int .u8 0, .int .u8 0, .int .u8 0, .int .u8 0, .int .u8 0, .int .u8 0, .int .u8 0] t)) w.heap.size t (nums .u8 (List.replicate 8 0)) := Blk.fresh w t _

set_option maxHeartbeats 400000 in
theorem PutBig64 (w : World) (x : Int) (hx : 0 ≤ x) :
    Calls Tryz.prog 71 #[.int .u64 x] w fun e w' => ∃ g, e = .returned (.slice (some ⟨g, 0, none⟩) 8 8) ∧ Blk w' g 5 (nums .u8 (le 8 x).reverse) ∧ Below w.heap.size w w' := by
  have hm := make8 w
  have h1 := lay64 _ w.heap.size 5 8 _ x (blk8 w 5) (by decide) hx
  have h2 := fun (w1 : World) (h : Blk w1 w.heap.size 5 (nums .u8 (le 8 x))) => reverse_any w1 w.heap.size 5 8 _ h (by rw [length_le]; decide)
  simp only [length_le, List.length_replicate] at h1 h2
  have H1 := Lib.hid h1
  have H2 := Lib.hid h2
  have HB := below_alloc w (.cells #[.int .u8 0, .int .u8 0, .int .u8 0, .int .u8 0, .int .u8 0, .int .u8 0, .int .u8 0, .int .u8 0] 5)
  clear h1 h2
  go_enter Tryz.func71, Tryz.ntmps71
  go_wp2_with (first | (go_at_call 101; refine H1.out.mono ?_; rintro e w' ⟨rfl, hblk, honly⟩) | (go_at_call 102; refine (H2.out _ hblk).mono ?_; rintro e w' ⟨rfl, hblk', honly'⟩))
  go_ret
  exact ⟨_, rfl, hblk', HB.trans ((honly.trans honly').below (Nat.le_refl _) HB.size)⟩

end Go.Proofs.YtgbbgdjdomkohaaGreat

/- Slices that are cut and copied, whatever their memory, if it isn't that of block g. -/
namespace Go.Proofs.YtgbbgdjdomkohaaGreat
open Go.RowKit

/-- In w the memory at A, in no way in block g, reads as the numbers zs of kind k. -/
def RdX (w : World) (g : Nat) (k : IntKind) (A : Option Addr) (zs : List Int) : Prop :=
  0 < zs.length → ∃ b o, A = some ⟨b, o, none⟩ ∧ b ≠ g ∧ b < w.heap.size ∧ ∀ i, i < zs.length → w.cell? ⟨b, o + i, none⟩ = some (.int k (zs.getD i 0))
section
variable {w w' : World} {B g : Nat} {k : IntKind} {A : Option Addr} {zs : List Int}
theorem RdX.only (h : RdX w g k A zs) (ho : Only g w w') : RdX w' g k A zs := fun hn => by
  obtain ⟨b, o, hA, hb, hs, hc⟩ := h hn
  refine ⟨b, o, hA, hb, Nat.lt_of_lt_of_le hs ho.size, fun i hi => ?_⟩
  rw [← hc i hi]
  simp [World.cell?, ho.block b hs (fun e => hb (by injection e))]
theorem RdX.below (h : RdX w g k A zs) (hb : Below w.heap.size w w') : RdX w' g k A zs := h.only (Only.ofBelow hb)
theorem RdX.drew (h : RdX w g k A zs) : RdX w.drew g k A zs := h
/-- Kept while another block turns. -/
theorem RdX.other {j : Nat} (h : RdX w g k A zs) (h' : RdX w j k A zs) (ho : Only j w w') : RdX w' g k A zs := fun hn => by
  obtain ⟨b, o, hA, hb, hs, hc⟩ := h hn
  obtain ⟨b', o', hA', hb', _, _⟩ := h' hn
  rw [hA] at hA'
  injection hA' with e
  injection e with e1 e2
  subst e1 e2
  refine ⟨b, o, hA, hb, Nat.lt_of_lt_of_le hs ho.size, fun i hi => ?_⟩
  rw [← hc i hi]
  simp [World.cell?, ho.block b hs (fun e => hb' (by injection e))]
theorem Rd.x (h : Rd w B k A zs) (hg : B ≤ g) (hs : B ≤ w.heap.size) : RdX w g k A zs := fun hn => by
  obtain ⟨b, o, hA, hb, hc⟩ := h hn
  exact ⟨b, o, hA, by omega, by omega, hc⟩
theorem RdX.rd (h : RdX w g k A zs) : Rd w w.heap.size k A zs := fun hn => by
  obtain ⟨b, o, hA, _, hs, hc⟩ := h hn
  exact ⟨b, o, hA, hs, hc⟩
theorem Blk.rdx {j : Nat} {t : TypeId} (h : Blk w j t (nums k zs)) (hj : j ≠ g) : RdX w g k (some ⟨j, 0, none⟩) zs :=
  fun _ => ⟨j, 0, rfl, hj, h.lt, fun i hi => by rw [Nat.zero_add, h.cell, nums_get k zs i hi]⟩
theorem RdX.nil : RdX w g k A [] := fun h => absurd h (by simp)
end

/-- The address of a slice that is cut n on. -/
def cutA (A : Option Addr) (n cap : Nat) : Option Addr := if cap = n then A else A.map (·.add n)
theorem getD_drop (zs : List Int) (n i : Nat) : (zs.drop n).getD i 0 = zs.getD (n + i) 0 := by
  simp [List.getD_eq_getElem?_getD, List.getElem?_drop]
theorem getD_take (zs : List Int) (n i : Nat) (h : i < n) : (zs.take n).getD i 0 = zs.getD i 0 := by
  simp [List.getD_eq_getElem?_getD, h]
theorem RdX.cut {w : World} {g : Nat} {k : IntKind} {A : Option Addr} {zs : List Int} (h : RdX w g k A zs) (n cap : Nat) (hc : zs.length ≤ cap) : RdX w g k (cutA A n cap) (zs.drop n) := fun hn => by
  rw [List.length_drop] at hn
  obtain ⟨b, o, rfl, hb, hs, hcell⟩ := h (by omega)
  refine ⟨b, o + n, ?_, hb, hs, fun i hi => ?_⟩
  · unfold cutA
    rw [if_neg (by omega)]
    show some (Addr.add _ n) = _
    rw [Addr.add_mid]
  · rw [List.length_drop] at hi
    rw [getD_drop, Nat.add_assoc]
    exact hcell (n + i) (by omega)
theorem Rd.cut {w : World} {B : Nat} {k : IntKind} {A : Option Addr} {zs : List Int} (h : Rd w B k A zs) (n cap : Nat) (hc : zs.length ≤ cap) : Rd w B k (cutA A n cap) (zs.drop n) := fun hn => by
  rw [List.length_drop] at hn
  obtain ⟨b, o, rfl, hb, hcell⟩ := h (by omega)
  refine ⟨b, o + n, ?_, hb, fun i hi => ?_⟩
  · unfold cutA
    rw [if_neg (by omega)]
    show some (Addr.add _ n) = _
    rw [Addr.add_mid]
  · rw [List.length_drop] at hi
    rw [getD_drop, Nat.add_assoc]
    exact hcell (n + i) (by omega)

section
variable {P : Program}
theorem run_cut {t elem : TypeId} (hu : P.underlying t = some (.slice elem)) (hs : (P.info? elem).map (·.size) = some 1) (w : World) (A : Option Addr) (len cap n : Nat) (ni : Int) (hni : ni = n) (hn : n ≤ len) :
    (Instr.sliceAt t (.slice A len cap) (some (.int .i64 ni)) none none).run P w = .ok (.slice (cutA A n cap) (len - n) (cap - n)) w := by
  subst hni
  have hz : ∀ w, (sizeOf elem).run P w = .ok 1 w := fun w => by
    cases hq : P.info? elem with
    | none => simp [hq] at hs
    | some i =>
      have : i.size = 1 := by simpa [hq] using hs
      simp [sizeOf, typeInfo, hq, this]
  have he : P.elem t = elem := by simp [Program.elem, hu]
  rw [run_sliceAt_slice w t _ _ _ _ (by rw [he]; exact hu), run_slice_l w t A len cap (by rw [he]; exact hu) .i64 n (by omega) (by omega), he, hz]
  simp [sliced, cutA]

/-- copy into block g, from o on. -/
theorem run_copy_blk {dT sT ty elem t : TypeId} {w : World} {g o n c : Nat} {cur : Array Value} {A : Option Addr} {zs : List Int} {cap : Nat} {k : IntKind} (hu : P.underlying dT = some (.slice elem)) (hs : (P.info? elem).map (·.size) = some 1)
    (hg : Blk w g t cur) (hr : RdX w g k A zs) (hfit : o + n ≤ cur.size) :
    (Builtin.copy_ #[dT, sT] ty #[.slice (some ⟨g, o, none⟩) n c, .slice A zs.length cap]).run P w =
      .ok (goInt (Nat.min zs.length n)) (w.setRow g (cur.toList.take o ++ (zs.take n).map (Value.int k) ++ cur.toList.drop (o + Nat.min zs.length n)).toArray) := by
  have hlen : (zs.take n).length = Nat.min zs.length n := by rw [List.length_take]; exact Nat.min_comm _ _
  by_cases h0 : Nat.min zs.length n = 0
  · rw [run_copy_none _ dT sT ty elem _ _ _ _ _ _ hu hs h0, h0]
    have e : zs.take n = [] := List.eq_nil_of_length_eq_zero (by rw [hlen]; exact h0)
    rw [e]
    simp only [List.map_nil, List.append_nil, Nat.add_zero, List.take_append_drop, Array.toArray_toList]
    rw [setRow_self w g cur t _ hg]
    rfl
  · have h0' : min zs.length n ≠ 0 := h0
    obtain ⟨b, p, rfl, hb, hsz, hc⟩ := hr (by omega)
    have hm : Nat.min zs.length n ≤ n := Nat.min_le_right _ _
    rw [run_copy_row (P := P) _ dT sT ty elem g o n c ⟨b, p, none⟩ zs.length cap cur t ((zs.take n).map (Value.int k)) hu hs hg (by rw [List.length_map]; exact hlen) ?_ (by rw [List.length_map, hlen]; omega) ?_]
    · rw [List.length_map, hlen]
    · intro j v hj
      rw [List.getElem?_map] at hj
      have hj' : j < (zs.take n).length := by
        rcases Nat.lt_or_ge j (zs.take n).length with h | h
        · exact h
        · rw [List.getElem?_eq_none h] at hj; cases hj
      rw [List.length_take] at hj'
      have hv := hc j (by omega)
      rw [List.getElem?_take, if_pos (by omega)] at hj
      have e : zs[j]? = some (zs.getD j 0) := by simp [List.getD_eq_getElem?_getD, show j < zs.length by omega]
      rw [e] at hj
      simp only [Option.map_some, Option.some.injEq] at hj
      subst hj
      rw [Addr.add_mid]
      exact hv
    · intro v hv
      rw [List.mem_map] at hv
      obtain ⟨c, _, rfl⟩ := hv
      rfl
end
end Go.Proofs.YtgbbgdjdomkohaaGreat

/- Slices of numbers that the call itself appends to. -/
namespace Go.Proofs.YtgbbgdjdomkohaaGreat
open Go.RowKit

/-- v is a slice of the call's own, in a block from B on, and reads as zs. -/
def Own (w : World) (B : Nat) (k : IntKind) (e : TypeId) (v : Value) (zs : List Int) : Prop := w.ownsRow B e 1 v zs.length (zs.map (Value.int k))
section
variable {w w' : World} {B g : Nat} {k : IntKind} {e : TypeId} {v : Value} {zs : List Int}
theorem Own.nil (w : World) (B : Nat) (k : IntKind) (e : TypeId) : Own w B k e (.slice none 0 0) [] := World.ownsRow_nil w B e 1
theorem Own.ofBlk (h : Blk w g e (nums k zs)) (hB : B ≤ g) (hl : zs.length ≤ maxLen) : Own w B k e (.slice (some ⟨g, 0, none⟩) zs.length zs.length) zs :=
  ⟨by simp, .inr ⟨g, zs.length, nums k zs, rfl, hB, h, Nat.le_refl _, hl, by rw [nums_size]; omega, by rw [nums_toList]; exact List.take_of_length_le (by simp)⟩⟩
/-- Its value, and how it reads. -/
theorem Own.form (h : Own w B k e v zs) : ∃ A cap, v = .slice A zs.length cap ∧ zs.length ≤ cap ∧ cap ≤ maxLen ∧ (A = none → cap = 0) ∧ (∀ p, A = some p → ∃ b, p = ⟨b, 0, none⟩ ∧ B ≤ b) ∧ Rd w w.heap.size k A zs := by
  obtain ⟨h1, h2⟩ := h
  rcases h2 with ⟨rfl, hz⟩ | ⟨g, cap, cur, rfl, hg, hh, hn, hc, hs, ht⟩
  · exact ⟨none, 0, by rw [hz], by omega, by unfold maxLen; omega, fun _ => rfl, (fun p hp => by cases hp), fun h => by omega⟩
  · refine ⟨some ⟨g, 0, none⟩, cap, rfl, hn, hc, fun h => (by cases h), fun p hp => ⟨g, by injection hp with hp; exact hp.symm, hg⟩, fun _ => ⟨g, 0, rfl, (Array.getElem?_eq_some_iff.1 hh).1, fun i hi => ?_⟩⟩
    rw [Nat.zero_add, cell_of_row w g i cur e (0, 0) hh]
    have e1 : cur[i]? = (cur.toList.take (zs.length * 1))[i]? := by rw [List.getElem?_take, if_pos (by omega)]; simp
    rw [e1, ht, List.getElem?_map]
    simp [List.getD, hi]
theorem Own.rdx (h : Own w B k e v zs) (hg : g < B) : ∃ A cap, v = .slice A zs.length cap ∧ zs.length ≤ cap ∧ (A = none → cap = 0) ∧ RdX w g k A zs := by
  obtain ⟨A, cap, hv, h1, _, h3, h4, h5⟩ := h.form
  refine ⟨A, cap, hv, h1, h3, fun hn => ?_⟩
  obtain ⟨b, o, hA, hb, hc⟩ := h5 hn
  obtain ⟨b', hp, hB⟩ := h4 _ hA
  injection hp with e1
  exact ⟨b, o, hA, by omega, hb, hc⟩
theorem Own.keep (h : Own w B k e v zs) (hb : ∀ i, B ≤ i → i < w.heap.size → w'.heap[i]? = w.heap[i]?) : Own w' B k e v zs := by
  obtain ⟨h1, h2⟩ := h
  refine ⟨h1, ?_⟩
  rcases h2 with h2 | ⟨g, cap, cur, hv, hg, hh, r⟩
  · exact .inl h2
  · exact .inr ⟨g, cap, cur, hv, hg, by rw [hb g hg (Array.getElem?_eq_some_iff.1 hh).1]; exact hh, r⟩
theorem Own.below (h : Own w B k e v zs) (hb : Below w.heap.size w w') : Own w' B k e v zs := h.keep fun i _ hi => hb.block i hi
theorem Own.only (h : Own w B k e v zs) (ho : Only g w w') (hg : g < B) : Own w' B k e v zs := h.keep fun i hB hi => ho.block i hi (fun e => by injection e with e; omega)
theorem Own.alloc (h : Own w B k e v zs) (ob : Obj) : Own (w.alloc ob) B k e v zs := h.keep fun i _ hi => Below.heap_alloc w ob i hi
theorem Own.drew (h : Own w B k e v zs) : Own w.drew B k e v zs := h
theorem Own.drewN (h : Own w B k e v zs) (n : Nat) : Own (w.drewN n) B k e v zs := h
/-- One of its numbers is written. -/
theorem Own.put (h : Own w B k e v zs) {j : Nat} (hj : j < zs.length) (x : Int) : ∃ g cap, v = .slice (some ⟨g, 0, none⟩) zs.length cap ∧ B ≤ g ∧ w.cell? ⟨g, j, none⟩ = some (.int k (zs.getD j 0)) ∧ w.frozen? ⟨g, j, none⟩ = false ∧
    Own (w.setCell ⟨g, j, none⟩ (.int k x)) B k e v (zs.set j x) ∧ Below B w (w.setCell ⟨g, j, none⟩ (.int k x)) := by
  have h' := h
  obtain ⟨h1, h2⟩ := h
  rcases h2 with ⟨_, hz⟩ | ⟨g, cap, cur, rfl, hg, hh, hn, hc, hs, ht⟩
  · omega
  · have hb : Blk w g e cur := hh
    refine ⟨g, cap, rfl, hg, ?_, hb.free j, ⟨by simp, .inr ⟨g, cap, cur.setIfInBounds j (.int k x), by simp, hg, hb.put j _, by simpa using hn, hc, by simpa using hs, ?_⟩⟩, (Below.refl _ _).setCell hg _⟩
    · rw [hb.cell]
      have e1 : cur[j]? = (cur.toList.take (zs.length * 1))[j]? := by rw [List.getElem?_take, if_pos (by omega)]; simp
      rw [e1, ht, List.getElem?_map]
      simp [List.getD, hj]
    · rw [List.length_set, Array.toList_setIfInBounds, List.take_set, ht, List.map_set]
/-- What an append to it leaves as it was. -/
theorem Own.grown (h : Own w B k e v zs) (hg : w.grownBy w' v.ownBlock) (hs : B ≤ w.heap.size) : Below B w w' := by
  refine ⟨hg.os, hg.tape, hg.output, hg.size, fun i hi => hg.block i (by omega) ?_⟩
  rcases h.2 with ⟨rfl, _⟩ | ⟨g, cap, cur, rfl, hB, hh, _⟩
  · simp [Value.ownBlock]
  · simp [Value.ownBlock]; omega
end

/-- One of an array's numbers. -/
theorem run_index_nums {P : Program} {t e : TypeId} {n : Nat} {k : IntKind} (hu : P.underlying t = some (.array n e)) (he : P.underlying e = some (.int k)) (hs : (P.info? e).map (·.size) = some 1) (zs : List Int) (i : Nat) (hi : i < n) (hl : zs.length = n) (w : World) :
    (Instr.index t (.agg (nums k zs)) (.int .i64 i)).run P w = .ok (.int k (zs.getD i 0)) w := by
  have hz : ∀ w, (sizeOf e).run P w = .ok 1 w := fun w => by
    cases hq : P.info? e with
    | none => simp [hq] at hs
    | some j =>
      have : j.size = 1 := by simpa [hq] using hs
      simp [sizeOf, typeInfo, hq, this]
  have hx : (nums k zs)[i]? = some (.int k (zs.getD i 0)) := nums_get k zs i (by omega)
  have ha : (isAgg e).run P w = .ok false w := by
    unfold isAgg
    rw [Sem.run_bind, run_underlying he w]
    rfl
  have hi' : (asIntOf (Value.int IntKind.i64 i)).run P w = .ok (.i64, (i : Int)) w := rfl
  have hx' : (nums k zs)[i]? = some (.int k (zs[i]?.getD 0)) := by rw [hx, List.getD_eq_getElem?_getD]
  simp [Instr.index, run_underlying hu, hz, part, ha, hi', hx', hi]

section
variable {P : Program}
/-- append of a slice of numbers to one of the call's own. -/
theorem run_append_nums {w : World} {B : Nat} {t ty e : TypeId} {k : IntKind} {bytes : Nat} {v : Value} {zs xs : List Int} {A : Option Addr} {cap : Nat} (ht : P.underlying t = some (.slice e))
    (hi : (P.info? e).map (fun i => (i.zero, i.size, i.bytes)) = some (some (.int k 0), 1, bytes)) (hby : bytes ≤ 8)
    (hown : Own w B k e v zs) (hr : Rd w w.heap.size k A xs) (hnil : A = none → cap = 0) (hsz : zs.length + xs.length ≤ 1099511627776) (hB : B ≤ w.heap.size) :
    ∃ v' w', (Builtin.append_ #[t, t] ty #[v, .slice A xs.length cap]).run P w = .ok v' w' ∧ Own w' B k e v' (zs ++ xs) ∧ Below B w w' ∧ w.grownBy w' v.ownBlock := by
  obtain ⟨i, hi0, hz0, hz1, hz2⟩ := info_parts hi
  have hm : (zs.length + xs.length) * bytes ≤ 140737488355328 := Nat.le_trans (Nat.mul_le_mul (by omega) hby) (by omega : 1099511627776 * 8 ≤ 140737488355328)
  cases A with
  | none =>
    obtain rfl := hnil rfl
    have hx : xs = [] := by
      rcases xs with _ | ⟨x, r⟩
      · rfl
      · obtain ⟨b, o, h, _⟩ := hr (by simp)
        cases h
    subst hx
    exact ⟨v, w, run_append_owned_none (P := P) w B t ty e i 1 ht hi0 v _ _ hown, by simpa using hown, Below.refl _ _, World.grownBy.refl _ _⟩
  | some ad =>
    have hc : ∀ j u, (xs.map (Value.int k))[j]? = some u → w.cell? (ad.add j) = some u := fun j u hj => by
      rw [List.getElem?_map] at hj
      rcases Nat.lt_or_ge j xs.length with hl | hl
      · obtain ⟨b, o, hA, _, hcell⟩ := hr (by omega)
        injection hA with hA
        subst hA
        rw [Addr.add_mid, hcell j hl]
        have e1 : xs[j]? = some (xs.getD j 0) := by simp [List.getD_eq_getElem?_getD, hl]
        rw [e1] at hj
        simpa using hj
      · rw [List.getElem?_eq_none hl] at hj
        cases hj
    obtain ⟨v', w', h1, h2, h3, _⟩ := run_append_own (P := P) w B t ty e i (.int k 0) 1 bytes ht hi0 hz0 hz1 hz2 rfl (by decide) v zs.length _ hown ad xs.length cap (xs.map (Value.int k)) (by simp) hc (ints_oneCell k xs) (by unfold maxLen; omega) hm hB
    refine ⟨v', w', h1, ?_, hown.grown h3 hB, h3⟩
    unfold Own
    rw [List.length_append, List.map_append]
    exact h2
/-- For an arm of the walk: a builtin whose run is known. -/
theorem wpList_append_run {ops : Array Oper} {rest : List Oper} {o : Oper} {a : Act} {w w' : World} {Q : Exit → Act → World → Prop} (hgd : o.guard = none) {s x : Operand} {t : TypeId}
    (ho : o.op = .call { callee := .builtin .append, args := #[s, x], argTypes := #[t, t] }) {v y v' : Value}
    (hr : (Builtin.append_ #[t, t] o.type #[v, y]).run P w = .ok v' w') (hs : a.eval s = v) (hx : a.eval x = y) (h : wpList P ops Q rest (a.put o.dst v') w') : wpList P ops Q (o :: rest) a w :=
  wpList_plain hgd fun K hK => by
    unfold Oper.wp
    simp only [execOp, ho, resolve, invoke, builtin, Sem.run_bind, Sem.run_pure, Result.andThen_ok, List.map_toArray, List.map_cons, List.map_nil, hs, hx, hr]
    exact hK _ _ h
/-- The same at a step of a region that draws its order. -/
theorem step_append_run {ops : Array Oper} {o : Oper} {a : Act} {w w' : World} {K : Act → World → Prop} {Q : Exit → Act → World → Prop} {E : Prop} (hgd : o.guard = none) {s x : Operand} {t : TypeId}
    (ho : o.op = .call { callee := .builtin .append, args := #[s, x], argTypes := #[t, t] }) {v y v' : Value}
    (hr : (Builtin.append_ #[t, t] o.type #[v, y]).run P w = .ok v' w') (hs : a.eval s = v) (hx : a.eval x = y) (h : K (a.put o.dst v') w') : if Region.wanted o (yielded ops a.tmps) = true then Oper.wp P o a w K Q else E := by
  have hw : Region.wanted o (yielded ops a.tmps) = true := by simp [Region.wanted, hgd]
  rw [if_pos hw]
  unfold Oper.wp
  simp only [execOp, ho, resolve, invoke, builtin, Sem.run_bind, Sem.run_pure, Result.andThen_ok, List.map_toArray, List.map_cons, List.map_nil, hs, hx, hr]
  exact h
end
end Go.Proofs.YtgbbgdjdomkohaaGreat
