
/- Package sha: the digest's state. -/
import Derived.Test.YtnankgophbjioaaDoorShaP
import Derived.Test.YtnankgophbjioaaDoorBlk
import Derived.StillTailTactics
namespace Go.Proofs.YtnankgophbjioaaDoor
open Go.RowKit

/-- The tables lie in their variables. -/
structure Tabs (w : World) : Prop where
  start : ∀ i, i < 8 → w.cell? ⟨1, i, none⟩ = some (.int .u32 (startL.getD i 0))
  roots : ∀ i, i < 64 → w.cell? ⟨0, i, none⟩ = some (.int .u32 (rootsL.getD i 0))
  two : 2 ≤ w.heap.size
theorem cell_same {w w' : World} (b o : Nat) (h : w'.heap[b]? = w.heap[b]?) : w'.cell? ⟨b, o, none⟩ = w.cell? ⟨b, o, none⟩ := by
  simp [World.cell?, h]
section
variable {w w' : World} {B g : Nat}
theorem Tabs.below (h : Tabs w) (hb : Below w.heap.size w w') : Tabs w' :=
  ⟨fun i hi => (cell_same _ _ (hb.block _ (by have := h.two; omega))).trans (h.start i hi), fun i hi => (cell_same _ _ (hb.block _ (by have := h.two; omega))).trans (h.roots i hi), Nat.le_trans h.two hb.size⟩
theorem Tabs.low (h : Tabs w) (hb : Below B w w') (hB : 2 ≤ B) : Tabs w' :=
  ⟨fun i hi => (cell_same _ _ (hb.block _ (by omega))).trans (h.start i hi), fun i hi => (cell_same _ _ (hb.block _ (by omega))).trans (h.roots i hi), Nat.le_trans h.two hb.size⟩
theorem Tabs.only (h : Tabs w) (ho : Only g w w') (hg : 2 ≤ g) : Tabs w' :=
  ⟨fun i hi => (cell_same _ _ (ho.block _ (by have := h.two; omega) (fun e => by injection e with e; omega))).trans (h.start i hi), fun i hi => (cell_same _ _ (ho.block _ (by have := h.two; omega) (fun e => by injection e with e; omega))).trans (h.roots i hi), Nat.le_trans h.two ho.size⟩
end

theorem arr8 : Tryd.prog.underlying 31 = some (.array 8 30) := by kernel_rfl
theorem size8 : (Tryd.prog.info? 31).map (·.size) = some 8 := by kernel_rfl
def zeros8L : List Int := [0, 0, 0, 0, 0, 0, 0, 0]

set_option maxHeartbeats 800000 in
theorem sha_state (w : World) (g : Nat) (added : List Int) (hl : added.length = 8) (hin : InL added) (hc : ∀ i, i < 8 → w.cell? ⟨g, i, none⟩ = some (.int .u32 (added.getD i 0))) (T : Tabs w) :
    Calls Tryd.prog 19 #[.pointer (some ⟨g, 0, none⟩)] w fun e w' => e = .returned (.agg (nums .u32 (addL startL added))) ∧ Below w.heap.size w w' := by
  have hg : g < w.heap.size := block_lt_of_cell (hc 0 (by decide))
  go_enter Tryd.func19, Tryd.ntmps19
  go_wp2
  go_loopw [5] (fun i wr => ∃ k : Nat, k ≤ 8 ∧ i = .int .i64 k ∧ Blk wr w.heap.size 31 (nums .u32 zeros8L) ∧ Blk wr (w.heap.size + 1) 31 (nums .u32 (upto (addL startL added) zeros8L k)) ∧ Below w.heap.size w wr) (fun i _ => 8 - (intOf i).toNat)
  case atStart => exact ⟨0, by decide, rfl, (Blk.fresh w _ _).alloc _, (by rw [upto_zero]; exact Blk.freshAt _ _ _ _ (by simp)), ((Below.refl _ _).alloc (Nat.le_refl _) _).alloc (by simp) _⟩
  case round =>
    obtain ⟨k, hk, rfl, b1, b2, hb⟩ := hrel
    by_cases hlt : k < 8
    · have c1 : wr.cell? ⟨g, k, none⟩ = some (.int .u32 (added.getD k 0)) := (hb.cell (p := ⟨g, k, none⟩) hg).trans (hc k hlt)
      have c2 : wr.cell? ⟨1, k, none⟩ = some (.int .u32 (startL.getD k 0)) := (hb.cell (p := ⟨1, k, none⟩) (Nat.lt_of_lt_of_le (show 1 < 2 by decide) T.two)).trans (T.start k hlt)
      have hll : k < (upto (addL startL added) zeros8L k).length := by rw [length_upto _ _ _ (by rw [length_addL _ _ (by rw [hl]; rfl)]; rfl)]; exact hlt
      have c3 : wr.cell? ⟨w.heap.size + 1, k, none⟩ = _ := (b2.cell k).trans (nums_get .u32 _ k hll)
      have f3 := b2.free k
      have hnew := b2.put k (.int .u32 ((startL.getD k 0 + added.getD k 0) % 4294967296))
      have e2 : (upto (addL startL added) zeros8L k).set k ((startL.getD k 0 + added.getD k 0) % 4294967296) = upto (addL startL added) zeros8L (k + 1) := by
        rw [← getD_addL startL added k hlt (by omega)]
        exact upto_set _ _ _ (by rw [length_addL _ _ (by rw [hl]; rfl)]; rfl) hlt
      rw [nums_put, e2] at hnew
      clear e2
      have HN := Lib.hid hnew
      have B3 := Lib.hid b2
      clear b2 hnew
      have h1 := hin.get k
      generalize (upto (addL startL added) zeros8L k).getD k 0 = c at *
      generalize startL.getD k 0 = x at *
      generalize added.getD k 0 = y at *
      go_wp2
      go_still_tail 12, (by kernel_rfl)
      go_wp2
      go_roundw
      case rel => exact ⟨k + 1, by omega, by go_num, b1.far (by show _ ≠ w.heap.size + 1; omega) _, HN.out, below_drawn (hb.setCell (by show _ ≤ w.heap.size + 1; omega) _)⟩
      case measure => simp [intOf]; omega
    · have hk8 : k = 8 := by omega
      have e8 : upto (addL startL added) zeros8L k = addL startL added := by rw [hk8]; exact upto_all _ _ (by rw [length_addL _ _ (by rw [hl]; rfl)]; rfl)
      rw [e8] at b2
      have hs8 : (Tryd.prog.info? 31).map (·.size) = some (nums .u32 (addL startL added)).size := by rw [nums_size, length_addL _ _ (by rw [hl]; rfl)]; exact size8
      have L1 := run_load_all (P := Tryd.prog) b2 arr8 rfl hs8
      have L2 := run_store_all (P := Tryd.prog) (c' := nums .u32 (addL startL added)) b1 hs8 (by rw [nums_size, nums_size, length_addL _ _ (by rw [hl]; rfl)]; rfl) (nums_one _ _)
      have L3 := Lib.hid (b1.setRow (nums .u32 (addL startL added)))
      have HS := Lib.hid hs8
      clear e8 hs8 hk8 b1 b2
      have HL1 := Lib.hid L1
      have HL2 := Lib.hid L2
      clear L1 L2
      go_wp2_with (first | (refine wpList_load_run rfl rfl HL1.out rfl ?_) | (refine wpList_store_run rfl rfl HL2.out rfl rfl ?_))
      exact bodyPost_ret (results_blk rfl _ rfl L3.out arr8 rfl HS.out) rfl ⟨rfl, below_row hb (Nat.le_refl _) _⟩
end Go.Proofs.YtnankgophbjioaaDoor
