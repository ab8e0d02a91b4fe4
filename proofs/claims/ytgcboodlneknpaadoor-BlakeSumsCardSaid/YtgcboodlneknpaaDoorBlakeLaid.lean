
/- Package blake's tables: what the condition gives, and a start that meets it. -/
import Derived.Test.YtgcboodlneknpaaDoorBlakeF
import Derived.Test.YtgcboodlneknpaaDoorLaid2
namespace Go.Proofs.YtgcboodlneknpaaDoor
open Go.ChangeShapes Go.WideShapes Go.ChangeAt Go.RowKit

def laid3 : List (String × DataW Unit) := [("ullage/blake.iv", Rows.laid_ullage_blake_iv), ("ullage/blake.table", Rows.laid_ullage_blake_table), ("ullage/blake.places", Rows.laid_ullage_blake_places)]
theorem gIv : Tryd.prog.globalNamed "ullage/blake.iv" = some 0 := by kernel_rfl
theorem gTable : Tryd.prog.globalNamed "ullage/blake.table" = some 1 := by kernel_rfl
theorem gPlaces : Tryd.prog.globalNamed "ullage/blake.places" = some 2 := by kernel_rfl
theorem tIv : (Tryd.prog.globals[0]?).map (·.type) = some 31 := by kernel_rfl
theorem tTable : (Tryd.prog.globals[1]?).map (·.type) = some 59 := by kernel_rfl
theorem tPlaces : (Tryd.prog.globals[2]?).map (·.type) = some 57 := by kernel_rfl
theorem cellsB64 : Tryd.prog.cellsOf 30 = 1 := by kernel_rfl
theorem cellsB8 : Tryd.prog.cellsOf 5 = 1 := by kernel_rfl
theorem cellsR16 : Tryd.prog.cellsOf 58 = 16 := by kernel_rfl
theorem cellsR4 : Tryd.prog.cellsOf 56 = 4 := by kernel_rfl
theorem arrIv : Tryd.prog.underlying 31 = some (.array 8 30) := by kernel_rfl
theorem arrTable : Tryd.prog.underlying 59 = some (.array 10 58) := by kernel_rfl
theorem arrR16 : Tryd.prog.underlying 58 = some (.array 16 5) := by kernel_rfl
theorem arrPlaces : Tryd.prog.underlying 57 = some (.array 8 56) := by kernel_rfl
theorem arrR4 : Tryd.prog.underlying 56 = some (.array 4 5) := by kernel_rfl
def tableR : List (List Int) := [[0, 1, 2, 3, 4, 5, 6, 7, 8, 9, 10, 11, 12, 13, 14, 15], [14, 10, 4, 8, 9, 15, 13, 6, 1, 12, 0, 2, 11, 7, 5, 3], [11, 8, 12, 0, 5, 2, 15, 13, 10, 14, 3, 6, 7, 1, 9, 4], [7, 9, 3, 1, 13, 12, 11, 14, 2, 6, 5, 10, 4, 0, 15, 8], [9, 0, 5, 7, 2, 4, 10, 15, 14, 1, 11, 12, 6, 8, 3, 13], [2, 12, 6, 10, 0, 11, 8, 3, 4, 13, 7, 5, 15, 14, 1, 9], [12, 5, 1, 15, 14, 13, 4, 10, 0, 7, 6, 3, 9, 2, 8, 11], [13, 11, 7, 14, 12, 1, 3, 9, 5, 0, 15, 4, 8, 6, 2, 10], [6, 15, 14, 9, 11, 3, 0, 8, 12, 2, 13, 7, 1, 4, 10, 5], [10, 2, 8, 4, 7, 6, 1, 5, 15, 11, 9, 14, 3, 12, 13, 0]]
def placesR : List (List Int) := [[0, 4, 8, 12], [1, 5, 9, 13], [2, 6, 10, 14], [3, 7, 11, 15], [0, 5, 10, 15], [1, 6, 11, 12], [2, 7, 8, 13], [3, 4, 9, 14]]
theorem tableR_N : ∀ i, i < 160 → (tableR.getD (i / 16) []).getD (i % 16) 0 = ((tableN.getD i 0 : Nat) : Int) := by decide +kernel
theorem placesR_N : ∀ i, i < 32 → (placesR.getD (i / 4) []).getD (i % 4) 0 = ((placesN.getD i 0 : Nat) : Int) := by decide +kernel

theorem btabs_of_laid {W : World} (h : laidMetH Tryd.prog laid3 W) : BTabs W := by
  rw [MakeChecks.laidMetH_plain _ _ _ (by kernel_rfl)] at h
  obtain ⟨ps, ⟨g0, t0, cs0, f0, p0, q0, hg0, ht0, hv0, hd0, ⟨g1, t1, cs1, f1, p1, q1, hg1, ht1, hv1, hd1, ⟨g2, t2, cs2, f2, p2, q2, hg2, ht2, hv2, hd2, _, _⟩, _⟩, _⟩, _, _⟩ := h
  obtain rfl := Option.some.inj (gIv.symm.trans hg0)
  obtain rfl := Option.some.inj (gTable.symm.trans hg1)
  obtain rfl := Option.some.inj (gPlaces.symm.trans hg2)
  obtain rfl := Option.some.inj (tIv.symm.trans ht0)
  obtain rfl := Option.some.inj (tTable.symm.trans ht1)
  obtain rfl := Option.some.inj (tPlaces.symm.trans ht2)
  have h0 := laid_ints (zs := ivL) arrIv Tryd.underlying30 cellsB64 hd0
  have h1 := laid_rows (rows := tableR) arrTable arrR16 Tryd.underlying5 cellsR16 cellsB8 hd1
  have h2 := laid_rows (rows := placesR) arrPlaces arrR4 Tryd.underlying5 cellsR4 cellsB8 hd2
  refine ⟨fun i hi => ?_, fun i hi => ?_, fun i hi => ?_⟩
  · rw [← h0 i hi, Array.getElem?_toList]
    exact World.var?_cell hg0 hv0 i
  · have e := h1 (i / 16) (i % 16) (by omega) (by omega)
    rw [show i / 16 * 16 + i % 16 = i by omega, tableR_N i hi] at e
    rw [← e, Array.getElem?_toList]
    exact World.var?_cell hg1 hv1 i
  · have e := h2 (i / 4) (i % 4) (by omega) (by omega)
    rw [show i / 4 * 4 + i % 4 = i by omega, placesR_N i hi] at e
    rw [← e, Array.getElem?_toList]
    exact World.var?_cell hg2 hv2 i
theorem own : ownKnob Tryd.prog.godebug = none := by kernel_rfl
theorem laidOut : laidOutB Tryd.prog = true := by kernel_rfl
/-- The door's own heap meets the condition. -/
theorem door_met3 (os : Os) (args : Array Value) : laidMetH Tryd.prog laid3 ((World.doorLaid Tryd.prog 400 os).forCall (fun _ _ => 0) ⟨#[], args, []⟩).memory :=
  laidMetH_of_parts3 (fuel := 8) (laidMet_of_run' 8 (by kernel_rfl) (by kernel_rfl)) (by kernel_rfl) (by kernel_rfl)
end Go.Proofs.YtgcboodlneknpaaDoor
