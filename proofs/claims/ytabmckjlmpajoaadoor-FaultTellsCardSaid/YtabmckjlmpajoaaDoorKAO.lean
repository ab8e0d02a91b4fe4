/- A slice of the call's own at a known block: one of its numbers is read, is written. -/
import Derived.Test.YtabmckjlmpajoaaDoorKAN
namespace Go.Proofs.YtabmckjlmpajoaaDoor
open Go.RowKit

section
variable {w w' : World} {B g n cap : Nat} {k : IntKind} {e : TypeId} {zs : List Int}
theorem Own.at (h : Own w B k e (.slice (some ⟨g, 0, none⟩) n cap) zs) {j : Nat} (hj : j < zs.length) : w.cell? ⟨g, j, none⟩ = some (.int k (zs.getD j 0)) ∧ w.frozen? ⟨g, j, none⟩ = false := by
  obtain ⟨g', cap', hv, _, h1, h2, _⟩ := h.put hj 0
  injection hv with e1 e2 e3
  injection e1 with e1
  injection e1 with e1
  subst e1
  exact ⟨h1, h2⟩
theorem Own.set (h : Own w B k e (.slice (some ⟨g, 0, none⟩) n cap) zs) {j : Nat} (hj : j < zs.length) (x : Int) : Own (w.setCell ⟨g, j, none⟩ (.int k x)) B k e (.slice (some ⟨g, 0, none⟩) n cap) (zs.set j x) := by
  obtain ⟨g', cap', hv, _, _, _, h3, _⟩ := h.put hj x
  injection hv with e1 e2 e3
  injection e1 with e1
  injection e1 with e1
  subst e1
  exact h3
theorem Own.ge (h : Own w B k e (.slice (some ⟨g, 0, none⟩) n cap) zs) : B ≤ g := by
  obtain ⟨A, cap', hv, _, _, _, hb, _⟩ := h.form
  injection hv with e1 e2 e3
  obtain ⟨b, hp, hB⟩ := hb _ e1.symm
  injection hp with e1
  omega
theorem Own.lt (h : Own w B k e (.slice (some ⟨g, 0, none⟩) n cap) zs) (hn : 0 < zs.length) : g < w.heap.size := block_lt_of_cell (h.at hn).1
theorem Own.len (h : Own w B k e (.slice (some ⟨g, 0, none⟩) n cap) zs) : n = zs.length := by
  obtain ⟨A, cap', hv, _, _, _, _, _⟩ := h.form
  injection hv
/-- Its block. -/
theorem Own.head {v : Value} (h : Own w B k e v zs) (hn : 0 < zs.length) : ∃ g cap, v = .slice (some ⟨g, 0, none⟩) zs.length cap := by
  obtain ⟨g, cap, hv, _⟩ := h.put hn 0
  exact ⟨g, cap, hv⟩
end
end Go.Proofs.YtabmckjlmpajoaaDoor
