
/- Package sha's tables: what the condition gives, and a start that meets it. -/
import Derived.Test.YtnankgophbjioaaDoorShaH
import Derived.Test.YtnankgophbjioaaDoorLaid
namespace Go.Proofs.YtnankgophbjioaaDoor
open Go.ChangeShapes Go.WideShapes Go.ChangeAt Go.RowKit

def laid2 : List (String × DataW Unit) := [("ullage/sha.start", Rows.laid_ullage_sha_start), ("ullage/sha.roots", Rows.laid_ullage_sha_roots)]
theorem gStart : Tryd.prog.globalNamed "ullage/sha.start" = some 1 := by kernel_rfl
theorem gRoots : Tryd.prog.globalNamed "ullage/sha.roots" = some 0 := by kernel_rfl
theorem tStart : (Tryd.prog.globals[1]?).map (·.type) = some 31 := by kernel_rfl
theorem tRoots : (Tryd.prog.globals[0]?).map (·.type) = some 51 := by kernel_rfl
theorem cellsU32 : Tryd.prog.cellsOf 30 = 1 := by kernel_rfl
theorem cellsU8 : Tryd.prog.cellsOf 5 = 1 := by kernel_rfl

theorem tabs_of_laid {W : World} (h : laidMetH Tryd.prog laid2 W) : Tabs W := by
  rw [MakeChecks.laidMetH_plain _ _ _ (by kernel_rfl)] at h
  obtain ⟨ps, ⟨g0, t0, cs0, f0, p0, q0, hg0, ht0, hv0, hd0, ⟨g1, t1, cs1, f1, p1, q1, hg1, ht1, hv1, hd1, _, _⟩, _⟩, _, _⟩ := h
  obtain rfl := Option.some.inj (gStart.symm.trans hg0)
  obtain rfl := Option.some.inj (gRoots.symm.trans hg1)
  obtain rfl := Option.some.inj (tStart.symm.trans ht0)
  obtain rfl := Option.some.inj (tRoots.symm.trans ht1)
  have h0 := laid_ints (zs := startL) arr8 Tryd.underlying30 cellsU32 hd0
  have h1 := laid_ints (zs := rootsL) arrW64 Tryd.underlying30 cellsU32 hd1
  have a0 : ∀ i, i < 8 → W.cell? ⟨1, i, none⟩ = some (.int .u32 (startL.getD i 0)) := fun i hi => by
    rw [← h0 i hi, Array.getElem?_toList]
    exact World.var?_cell hg0 hv0 i
  have a1 : ∀ i, i < 64 → W.cell? ⟨0, i, none⟩ = some (.int .u32 (rootsL.getD i 0)) := fun i hi => by
    rw [← h1 i hi, Array.getElem?_toList]
    exact World.var?_cell hg1 hv1 i
  have b0 := block_lt_of_cell (a0 0 (by decide))
  have b1 := block_lt_of_cell (a1 0 (by decide))
  refine ⟨a0, a1, ?_⟩
  have b0' : 1 < W.heap.size := b0
  have b1' : 0 < W.heap.size := b1
  omega
theorem own : ownKnob Tryd.prog.godebug = none := by kernel_rfl
theorem laidOut : laidOutB Tryd.prog = true := by kernel_rfl
/-- The door's own heap meets the condition. -/
theorem door_met (os : Os) (args : Array Value) : laidMetH Tryd.prog laid2 ((World.doorLaid Tryd.prog 400 os).forCall (fun _ _ => 0) ⟨#[], args, []⟩).memory :=
  laidMetH_of_parts3 (fuel := 8) (laidMet_of_run' 8 (by kernel_rfl) (by kernel_rfl)) (by kernel_rfl) (by kernel_rfl)
end Go.Proofs.YtnankgophbjioaaDoor
