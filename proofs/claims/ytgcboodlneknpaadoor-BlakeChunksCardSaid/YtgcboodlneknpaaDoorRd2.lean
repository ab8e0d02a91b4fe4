
/- A slice of slices of numbers that came in. -/
import Derived.Test.YtgcboodlneknpaaDoorLaw
import Derived.Test.YtgcboodlneknpaaDoorCut
import Derived.Deep.Matrix
namespace Go.Proofs.YtgcboodlneknpaaDoor
open Go.ChangeShapes Go.WideShapes Go.ChangeAt Go.RowKit

/-- In w the memory at p reads as n slices; the r-th lies at A r, has the capacity C r and reads as Z r. All of it below block B. -/
structure RdRows (w : World) (B : Nat) (k : IntKind) (p : Option Addr) (n : Nat) (A : Nat → Option Addr) (C : Nat → Nat) (Z : Nat → List Int) : Prop where
  top : 0 < n → ∃ b o, p = some ⟨b, o, none⟩ ∧ b < B ∧ ∀ r, r < n → w.cell? ⟨b, o + r, none⟩ = some (.slice (A r) (Z r).length (C r))
  cap : ∀ r, r < n → (Z r).length ≤ C r
  nil : ∀ r, r < n → A r = none → C r = 0
  row : ∀ r, r < n → Rd w B k (A r) (Z r)
section
variable {w w' : World} {B : Nat} {k : IntKind} {p : Option Addr} {n : Nat} {A : Nat → Option Addr} {C : Nat → Nat} {Z : Nat → List Int}
theorem RdRows.below (h : RdRows w B k p n A C Z) (hb : Below B w w') : RdRows w' B k p n A C Z :=
  ⟨fun hn => by
    obtain ⟨b, o, hp, hB, hc⟩ := h.top hn
    exact ⟨b, o, hp, hB, fun r hr => (hb.cell (p := ⟨b, o + r, none⟩) hB).trans (hc r hr)⟩, h.cap, h.nil, fun r hr => (h.row r hr).below hb⟩
theorem RdRows.get (h : RdRows w B k p n A C Z) {r : Nat} (hr : r < n) : ∃ b o, p = some ⟨b, o, none⟩ ∧ w.cell? ⟨b, o + r, none⟩ = some (.slice (A r) (Z r).length (C r)) := by
  obtain ⟨b, o, hp, _, hc⟩ := h.top (by omega)
  exact ⟨b, o, hp, hc r hr⟩
end
section
variable {H : Type} {enc : TypeId × Value → H} {P : Program} {W : World}
theorem open_rows {t e q : TypeId} {k : IntKind} {b0 : Nat} {v : Value} {d : DataW H} {ps : List MemPlace} (ht : P.underlying t = some (.slice e)) (he : P.underlying e = some (.slice q)) (hq : P.underlying q = some (.int k)) (ce : P.cellsOf e = 1) (cq : P.cellsOf q = 1)
    (hval : Value.okWide P W .any b0 t v) (hd : DataW.Trod enc P W 0 (fun _ => true) true t v d ps) (hlt : ∀ x ∈ ps, x.block < W.heap.size) :
    ∃ (p : Option Addr) (n cap : Nat) (A : Nat → Option Addr) (C : Nat → Nat) (Z : Nat → List Int), v = .slice p n cap ∧ n ≤ 9223372036854775807 ∧ RdRows W W.heap.size k p n A C Z ∧ ∀ r, r < n → (Z r).length ≤ 9223372036854775807 ∧ ∀ c ∈ Z r, (Lit.int k c).wf = true := by
  obtain ⟨a0, len, cap, rfl⟩ := okWide_slice ht hval
  obtain ⟨fuel, hf⟩ := hd
  rcases Deep.open_int_rows ht he hq ce cq hf with ⟨hcs, hx⟩ | ⟨a, len', cap', A, L, C, Z, hcs, _, hl, hm, hx, hrows⟩
  · simp [Value.cells] at hcs
    obtain ⟨rfl, rfl, rfl⟩ := hcs
    exact ⟨none, 0, 0, fun _ => none, fun _ => 0, fun _ => [], rfl, by decide, ⟨fun h => by omega, fun r h => by omega, fun r h => by omega, fun r h => by omega⟩, fun r h => by omega⟩
  · simp [Value.cells] at hcs
    obtain ⟨rfl, rfl, rfl⟩ := hcs
    simp only [Prod.mk.injEq] at hx
    obtain ⟨rfl, rfl⟩ := hx
    unfold maxLen at hm hrows
    have hzl : ∀ r, r < len → ((Z r).take (L r)).length = L r := fun r hr => by
      have h := hrows r (by omega)
      rw [List.length_take, h.2.2.2.1]; omega
    refine ⟨some a, len, cap, A, C, fun r => (Z r).take (L r), rfl, by omega, ⟨fun hn => ?_, fun r hr => ?_, fun r hr => (hrows r (by omega)).2.2.2.2.2.1, fun r hr hpos => ?_⟩, fun r hr => ⟨?_, fun c hc => (hrows r (by omega)).2.2.2.2.1 c (List.mem_of_mem_take hc)⟩⟩
    · have h0 := (hrows 0 (by omega)).1
      obtain ⟨b, off, spot⟩ := a
      have hspot : spot = none := by simpa [Addr.add] using World.cell?_spot h0
      subst hspot
      refine ⟨b, off, rfl, ?_, fun r hr => ?_⟩
      · exact hlt (.cell b off) (List.mem_append_left _ (MemPlace.mem_row.2 ⟨0, by omega, by simp⟩))
      · rw [hzl r hr, ← add_plain]
        exact (hrows r (by omega)).1
    · rw [hzl r hr]; exact (hrows r (by omega)).2.1
    · rw [hzl r hr] at hpos
      have h := (hrows r (by omega)).2.2.2.2.2.2
      have hC := (hrows r (by omega)).2.1
      cases hA : A r with
      | none =>
        have := (hrows r (by omega)).2.2.2.2.2.1 hA
        omega
      | some a' =>
        have hc := (h a' hA).2
        have h0 := hc 0 (by omega)
        obtain ⟨b, off, spot⟩ := a'
        have hspot : spot = none := by simpa [Addr.add] using World.cell?_spot h0
        subst hspot
        refine ⟨b, off, rfl, ?_, fun i hi => ?_⟩
        · refine hlt (.cell b off) (List.mem_append_right _ (List.mem_flatMap.2 ⟨r, List.mem_range.2 (by omega), ?_⟩))
          rw [hA]
          exact MemPlace.mem_row.2 ⟨0, by have := (hrows r (by omega)).2.2.2.1; omega, by simp⟩
        · rw [hzl r hr] at hi
          rw [getD_take _ _ _ hi, ← add_plain]
          exact hc i (by omega)
    · rw [hzl r hr]
      have h := hrows r (by omega)
      omega
end
end Go.Proofs.YtgcboodlneknpaaDoor
