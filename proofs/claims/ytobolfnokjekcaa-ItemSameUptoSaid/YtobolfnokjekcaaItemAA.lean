
/- A copy whose numbers and kinds may turn, whose shape stays. -/
import Derived.Test.YtobolfnokjekcaaItemZ
namespace Go.Proofs.Ytobolfnokjekcaa
open Go.RowKit

/-- The shape of the new lists. -/
def Sh (w : World) (M : Nat → Option (List It)) : Prop :=
  ∀ g l, M g = some l → ∃ cs, Blk w g 25 cs ∧ ∀ i X, l[i]? = some X → ∃ k m A cap, cs[i * 4]? = some (.int .i64 k) ∧ cs[i * 4 + 1]? = some (.int .u64 m) ∧ cs[i * 4 + 3]? = some (.slice A X.l.length cap) ∧ (X.l = [] ∨ ∃ g', A = some ⟨g', 0, none⟩ ∧ M g' = some X.l)
theorem Sh.of {w : World} {n : Nat} {M : Nat → Option (List It)} (h : Inv w n 0 M fun _ _ => False) : Sh w M := fun g l hg => by
  obtain ⟨_, ⟨cs, h2, _⟩, h3⟩ := h g l hg
  refine ⟨cs, h2, fun i X hX => ?_⟩
  obtain ⟨A, cap, c0, c1, c2, c3, _, _, _, e4⟩ := h3 i X hX
  exact ⟨X.k, X.n, A, cap, (h2.cell _).symm.trans c0, (h2.cell _).symm.trans c1, (h2.cell _).symm.trans c3, e4 id⟩
theorem Sh.on {w w' : World} {M : Nat → Option (List It)} (h : Sh w M) (hb : Below w.heap.size w w') : Sh w' M := fun g l hg => by
  obtain ⟨cs, h1, h2⟩ := h g l hg
  exact ⟨cs, h1.on hb, h2⟩
theorem of_some {o : Option Code} {c c' : Code} {P : Code → Prop} (h : o = some c) (h' : o = some c') (k : P c') : P c := by
  rw [h] at h'
  injection h' with h'
  rw [h']
  exact k
theorem aft {o : Oper} {j : Nat} (h : (o.after.any fun e => Region.binds .any e && e.on == j) = true) : ∃ e ∈ o.after, Region.binds .any e = true ∧ e.on = j := by
  rw [Array.any_eq_true'] at h
  obtain ⟨e, h1, h2⟩ := h
  rw [Bool.and_eq_true] at h2
  exact ⟨e, h1, h2.1, eq_of_beq h2.2⟩
def lowB (ops : Array Oper) : Bool := (List.range ops.size).all fun i => match ops[i]? with
  | some o => o.after.all fun e => !Region.binds .any e || decide (e.on < i)
  | none => true
theorem low_of {ops : Array Oper} (h : lowB ops = true) : ∀ i o, ops[i]? = some o → ∀ e ∈ o.after, Region.binds .any e = true → e.on < i := by
  intro i o ho e he hb
  unfold lowB at h
  rw [List.all_eq_true] at h
  have h1 := h i (List.mem_range.2 (Array.getElem?_eq_some_iff.1 ho).1)
  rw [ho] at h1
  simp only [Array.all_eq_true'] at h1
  have h2 := h1 e he
  rw [hb] at h2
  simpa using h2
/-- The loops' worlds. -/
structure LI (N gC : Nat) (w6 W : World) (M : Nat → Option (List It)) (V : Array Value) : Prop where
  low : Below N w6 W
  sh : Sh W M
  blk : Blk W gC 25 V
  far : ∀ b, M b = none → W.heap[b]? = w6.heap[b]?
section
variable {N gC g g' j i : Nat} {w6 W : World} {M : Nat → Option (List It)} {V : Array Value} {l l' : List It} {X : It} {u : Value}
theorem LI.put (h : LI N gC w6 W M V) (hM : ∀ g l, M g = some l → N ≤ g) (hg : M g = some l) (hC : M gC = none) (hu : (j % 4 = 0 ∧ ∃ k, u = .int .i64 k) ∨ (j % 4 = 1 ∧ ∃ m, u = .int .u64 m)) : LI N gC w6 (W.setCell ⟨g, j, none⟩ u) M V := by
  refine ⟨h.low.setCell (p := ⟨g, j, none⟩) (hM g l hg) u, fun g' l' hg' => ?_, h.blk.far (p := ⟨g, j, none⟩) (fun e => ?_) u, fun b hb => (Below.heap_setCell W ⟨g, j, none⟩ u b (fun e => ?_)).trans (h.far b hb)⟩
  · obtain ⟨cs, h1, h2⟩ := h.sh g' l' hg'
    by_cases e : g' = g
    · subst e
      refine ⟨_, h1.put j u, fun i X hX => ?_⟩
      obtain ⟨k, m, A, cap, a0, a1, a3, a4⟩ := h2 i X hX
      have s0 := (Array.getElem?_eq_some_iff.1 a0).1
      have s1 := (Array.getElem?_eq_some_iff.1 a1).1
      rcases hu with ⟨hj, k', rfl⟩ | ⟨hj, m', rfl⟩
      · by_cases hji : j = i * 4
        · subst hji
          exact ⟨k', m, A, cap, by simp [s0], by rw [Array.getElem?_setIfInBounds_ne (by omega)]; exact a1, by rw [Array.getElem?_setIfInBounds_ne (by omega)]; exact a3, a4⟩
        · exact ⟨k, m, A, cap, by rw [Array.getElem?_setIfInBounds_ne hji]; exact a0, by rw [Array.getElem?_setIfInBounds_ne (by omega)]; exact a1, by rw [Array.getElem?_setIfInBounds_ne (by omega)]; exact a3, a4⟩
      · by_cases hji : j = i * 4 + 1
        · subst hji
          exact ⟨k, m', A, cap, by rw [Array.getElem?_setIfInBounds_ne (by omega)]; exact a0, by simp [s1], by rw [Array.getElem?_setIfInBounds_ne (by omega)]; exact a3, a4⟩
        · exact ⟨k, m, A, cap, by rw [Array.getElem?_setIfInBounds_ne (by omega)]; exact a0, by rw [Array.getElem?_setIfInBounds_ne hji]; exact a1, by rw [Array.getElem?_setIfInBounds_ne (by omega)]; exact a3, a4⟩
    · exact ⟨cs, h1.far (p := ⟨g, j, none⟩) e u, h2⟩
  · have e' : gC = g := e
    rw [e', hg] at hC
    cases hC
  · have e' : b = g := e
    rw [e', hg] at hb
    cases hb
theorem LI.item (h : LI N gC w6 W M V) (hg : M g = some l) (hX : l[i]? = some X) : ∃ k m A cap, W.cell? ⟨g, i * 4, none⟩ = some (.int .i64 k) ∧ W.cell? ⟨g, i * 4 + 1, none⟩ = some (.int .u64 m) ∧ W.cell? ⟨g, i * 4 + 3, none⟩ = some (.slice A X.l.length cap) ∧
    W.frozen? ⟨g, i * 4, none⟩ = false ∧ W.frozen? ⟨g, i * 4 + 1, none⟩ = false ∧ (X.l = [] ∨ ∃ g', A = some ⟨g', 0, none⟩ ∧ M g' = some X.l) := by
  obtain ⟨cs, h1, h2⟩ := h.sh g l hg
  obtain ⟨k, m, A, cap, a0, a1, a3, a4⟩ := h2 i X hX
  exact ⟨k, m, A, cap, (h1.cell _).trans a0, (h1.cell _).trans a1, (h1.cell _).trans a3, h1.free _, h1.free _, a4⟩
theorem LI.keep3 (h : LI N gC w6 W M V) (hg : M g = some l) (hj : j % 4 ≠ 3) {v : Value} (hc : W.cell? ⟨g, i * 4 + 3, none⟩ = some v) : (W.setCell ⟨g', j, none⟩ u).cell? ⟨g, i * 4 + 3, none⟩ = some v := by
  obtain ⟨cs, h1, _⟩ := h.sh g l hg
  rw [h1.cell] at hc
  by_cases e : g = g'
  · subst e
    rw [(h1.put j u).cell, Array.getElem?_setIfInBounds_ne (by omega)]
    exact hc
  · rw [(h1.far (p := ⟨g', j, none⟩) e u).cell]
    exact hc
end
end Go.Proofs.Ytobolfnokjekcaa
