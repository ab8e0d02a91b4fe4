
/- Slices of the call's own whose elements are several cells, or no numbers. -/
import Derived.Test.YtobolfnokjekcaaApp
import Derived.Maps.AppendAt
namespace Go.Proofs.Ytobolfnokjekcaa
open Go.RowKit
section
variable {w w' : World} {B g m n cap s j : Nat} {e : TypeId} {v : Value} {cs : List Value}
theorem oc_head (h : w.ownsRow B e s v n cs) (hn : 0 < n) : ∃ g cap, v = .slice (some ⟨g, 0, none⟩) n cap ∧ n ≤ cap ∧ cap ≤ maxLen ∧ B ≤ g ∧ g < w.heap.size := by
  rcases h.2 with ⟨_, hz⟩ | ⟨g, cap, cur, rfl, hg, hh, hn, hc, hs, ht⟩
  · omega
  · exact ⟨g, cap, rfl, hn, hc, hg, (Array.getElem?_eq_some_iff.1 hh).1⟩
/-- Its value. -/
theorem oc_form (h : w.ownsRow B e s v n cs) : ∃ A cap, v = .slice A n cap ∧ n ≤ cap ∧ cap ≤ maxLen ∧ (A = none → cap = 0) ∧ (∀ p, A = some p → ∃ g, p = ⟨g, 0, none⟩ ∧ B ≤ g ∧ g < w.heap.size) := by
  rcases h.2 with ⟨rfl, hz⟩ | ⟨g, cap, cur, rfl, hg, hh, hn, hc, hs, ht⟩
  · exact ⟨none, 0, by rw [hz], by omega, by unfold maxLen; omega, fun _ => rfl, fun p hp => by cases hp⟩
  · exact ⟨some ⟨g, 0, none⟩, cap, rfl, hn, hc, (fun h => by cases h), fun p hp => ⟨g, by injection hp with hp; exact hp.symm, hg, (Array.getElem?_eq_some_iff.1 hh).1⟩⟩
theorem oc_blk (h : w.ownsRow B e s (.slice (some ⟨g, 0, none⟩) m cap) n cs) : ∃ cur, Blk w g e cur ∧ B ≤ g ∧ n ≤ cap ∧ m = n ∧ cur.size = cap * s ∧ cur.toList.take (n * s) = cs := by
  rcases h.2 with ⟨hz, _⟩ | ⟨g', cap', cur, hv, hg, hh, hn, hc, hs, ht⟩
  · cases hz
  · injection hv with e1 e2 e3
    injection e1 with e1
    injection e1 with e1
    subst e1 e2 e3
    exact ⟨cur, hh, hg, hn, rfl, hs, ht⟩
theorem oc_cell (h : w.ownsRow B e s (.slice (some ⟨g, 0, none⟩) m cap) n cs) (hj : j < n * s) : w.cell? ⟨g, j, none⟩ = cs[j]? ∧ w.frozen? ⟨g, j, none⟩ = false := by
  obtain ⟨cur, hb, _, _, _, hs, ht⟩ := oc_blk h
  refine ⟨?_, hb.free j⟩
  rw [hb.cell, ← ht, List.getElem?_take, if_pos hj]
  simp
theorem oc_put (h : w.ownsRow B e s (.slice (some ⟨g, 0, none⟩) m cap) n cs) (j : Nat) (u : Value) : (w.setCell ⟨g, j, none⟩ u).ownsRow B e s (.slice (some ⟨g, 0, none⟩) m cap) n (cs.set j u) := by
  have hl := h.1
  rcases h.2 with ⟨hz, _⟩ | ⟨g', cap', cur, hv, hg, hh, hn, hc, hs, ht⟩
  · cases hz
  · injection hv with e1 e2 e3
    injection e1 with e1
    injection e1 with e1
    subst e1 e2 e3
    have hb : Blk w g e cur := hh
    exact ⟨by simpa using hl, .inr ⟨g, cap, cur.setIfInBounds j u, rfl, hg, hb.put j u, hn, hc, by simpa using hs, by rw [Array.toList_setIfInBounds, List.take_set, ht]⟩⟩
theorem oc_keep (h : w.ownsRow B e s v n cs) (hb : ∀ i, B ≤ i → i < w.heap.size → w'.heap[i]? = w.heap[i]?) : w'.ownsRow B e s v n cs := by
  obtain ⟨h1, h2⟩ := h
  refine ⟨h1, ?_⟩
  rcases h2 with h2 | ⟨g, cap, cur, hv, hg, hh, r⟩
  · exact .inl h2
  · exact .inr ⟨g, cap, cur, hv, hg, by rw [hb g hg (Array.getElem?_eq_some_iff.1 hh).1]; exact hh, r⟩
theorem oc_on (h : w.ownsRow B e s v n cs) (hb : Below w.heap.size w w') : w'.ownsRow B e s v n cs := oc_keep h fun i _ hi => hb.block i hi
theorem oc_alloc (h : w.ownsRow B e s v n cs) (ob : Obj) : (w.alloc ob).ownsRow B e s v n cs := oc_on h (below_alloc w ob)
theorem oc_drewN (h : w.ownsRow B e s v n cs) (k : Nat) : (w.drewN k).ownsRow B e s v n cs := h
theorem oc_less (h : w.ownsRow B e s v n cs) {B' : Nat} (hB : B' ≤ B) : w.ownsRow B' e s v n cs := by
  obtain ⟨h1, h2⟩ := h
  refine ⟨h1, ?_⟩
  rcases h2 with h2 | ⟨g, cap, cur, hv, hg, r⟩
  · exact .inl h2
  · exact .inr ⟨g, cap, cur, hv, by omega, r⟩
/-- Another block turns. -/
theorem oc_far (h : w.ownsRow B e s (.slice (some ⟨g, 0, none⟩) m cap) n cs) {p : Addr} (hp : g ≠ p.block) (u : Value) : (w.setCell p u).ownsRow B e s (.slice (some ⟨g, 0, none⟩) m cap) n cs := by
  have hl := h.1
  rcases h.2 with ⟨hz, _⟩ | ⟨g', cap', cur, hv, hg, hh, r⟩
  · cases hz
  · have hv' := hv
    injection hv with e1 e2 e3
    injection e1 with e1
    injection e1 with e1
    subst e1
    exact ⟨hl, .inr ⟨g, cap', cur, hv', hg, (Below.heap_setCell w p u g hp).trans hh, r⟩⟩
theorem oc_cut (h : w.ownsRow B e s (.slice (some ⟨g, 0, none⟩) m cap) n cs) {k : Nat} (hk : k ≤ n) : w.ownsRow B e s (.slice (some ⟨g, 0, none⟩) k cap) k (cs.take (k * s)) := by
  have hl := h.1
  have hks : k * s ≤ n * s := Nat.mul_le_mul_right s hk
  rcases h.2 with ⟨hz, _⟩ | ⟨g', cap', cur, hv, hg, hh, hn, hc, hs, ht⟩
  · cases hz
  · injection hv with e1 e2 e3
    injection e1 with e1
    injection e1 with e1
    subst e1 e2 e3
    refine ⟨by rw [List.length_take]; omega, .inr ⟨g, cap, cur, rfl, hg, hh, by omega, hc, hs, ?_⟩⟩
    rw [← ht, List.take_take, Nat.min_eq_left hks]
/-- A block that has just been made. -/
theorem oc_new (w : World) (B : Nat) (e : TypeId) (s n : Nat) (cells : Array Value) (hc : cells.size = n * s) (hB : B ≤ w.heap.size) (hn : n ≤ maxLen) : (w.alloc (.cells cells e)).ownsRow B e s (.slice (some ⟨w.heap.size, 0, none⟩) n n) n cells.toList := by
  refine ⟨by simpa using hc, .inr ⟨w.heap.size, n, cells, rfl, hB, Blk.fresh w e cells, Nat.le_refl _, hn, hc, ?_⟩⟩
  rw [← hc]
  exact List.take_of_length_le (by simp)
/-- What an append to it leaves as it was. -/
theorem oc_grown (h : w.ownsRow B e s v n cs) (hg : w.grownBy w' v.ownBlock) (hs : B ≤ w.heap.size) : Below B w w' := by
  refine ⟨hg.os, hg.tape, hg.output, hg.size, fun i hi => hg.block i (by omega) ?_⟩
  rcases h.2 with ⟨rfl, _⟩ | ⟨g, cap, cur, rfl, hB, hh, _⟩
  · simp [Value.ownBlock]
  · simp [Value.ownBlock]; omega
end
section
variable {P : Program}
theorem oc_append {w : World} {B : Nat} {t ty e : TypeId} {s bytes : Nat} {v z : Value} {n m c : Nat} {cs news : List Value} {a : Addr} (ht : P.underlying t = some (.slice e))
    (hi : (P.info? e).map (fun i => (i.zero, i.size, i.bytes)) = some (some z, s, bytes)) (hzs : z.cells.size = s) (hsz : 0 < s) (hby : bytes ≤ 64)
    (hown : w.ownsRow B e s v n cs) (hl : news.length = m * s) (hc : ∀ j u, news[j]? = some u → w.cell? (a.add j) = some u) (h1 : ∀ u ∈ news, u.oneCell' = true) (hb : n + m ≤ 1099511627776) (hB : B ≤ w.heap.size) :
    ∃ v' w', (Builtin.append_ #[t, t] ty #[v, .slice (some a) m c]).run P w = .ok v' w' ∧ w'.ownsRow B e s v' (n + m) (cs ++ news) ∧ Below B w w' ∧ w.grownBy w' v.ownBlock ∧ (v'.ownBlock = v.ownBlock ∨ v'.ownBlock = some w.heap.size) := by
  obtain ⟨i, hi0, hz0, hz1, hz2⟩ := info_parts hi
  have hm : (n + m) * bytes ≤ 140737488355328 := Nat.le_trans (Nat.mul_le_mul hb hby) (by omega : 1099511627776 * 64 ≤ 140737488355328)
  obtain ⟨v', w', h2, h3, h4, _, h5⟩ := run_append_own_at (P := P) w B t ty e i z s bytes ht hi0 hz0 hz1 hz2 hzs hsz v n cs hown a m c news hl hc h1 (by unfold maxLen; omega) hm hB
  exact ⟨v', w', h2, h3, oc_grown hown h4 hB, h4, h5⟩
theorem size_run {elem : TypeId} {sz : Nat} (hs : (P.info? elem).map (·.size) = some sz) (w : World) : (sizeOf elem).run P w = .ok sz w := by
  cases hq : P.info? elem with
  | none => simp [hq] at hs
  | some i =>
    have : i.size = sz := by simpa [hq] using hs
    simp [sizeOf, typeInfo, hq, this]
/-- s[:m] -/
theorem run_less {t elem : TypeId} {sz : Nat} (hu : P.underlying t = some (.slice elem)) (hs : (P.info? elem).map (·.size) = some sz) (w : World) (g len cap m : Nat) (mi : Int) (hmi : mi = m) (hm : m ≤ cap) :
    (Instr.sliceAt t (.slice (some ⟨g, 0, none⟩) len cap) none (some (.int .i64 mi)) none).run P w = .ok (.slice (some ⟨g, 0, none⟩) m cap) w := by
  subst hmi
  have he : P.elem t = elem := by simp [Program.elem, hu]
  rw [run_sliceAt_slice w t _ _ _ _ (by rw [he]; exact hu), run_slice_h w t _ len cap (by rw [he]; exact hu) .i64 m (by omega) (by omega), he, size_run hs]
  simp [sliced, Addr.add_mid]
/-- s[n:] -/
theorem run_cutK {t elem : TypeId} {sz : Nat} (hu : P.underlying t = some (.slice elem)) (hs : (P.info? elem).map (·.size) = some sz) (w : World) (A : Option Addr) (len cap n : Nat) (ni : Int) (hni : ni = n) (hn : n ≤ len) :
    (Instr.sliceAt t (.slice A len cap) (some (.int .i64 ni)) none none).run P w = .ok (.slice (if cap = n then A else A.map (·.add (n * sz))) (len - n) (cap - n)) w := by
  subst hni
  have he : P.elem t = elem := by simp [Program.elem, hu]
  rw [run_sliceAt_slice w t _ _ _ _ (by rw [he]; exact hu), run_slice_l w t A len cap (by rw [he]; exact hu) .i64 n (by omega) (by omega), he, size_run hs]
  simp [sliced]
end
end Go.Proofs.Ytobolfnokjekcaa
