/- Slices of the call's own whose elements are several cells, or no numbers. -/
import Derived.Test.YtgbbgdjdomkohaaGreatKAJ
import Derived.Maps.AppendAt
import Derived.Lib.QuietBelow
import Derived.Test.YtgbbgdjdomkohaaGreatKAN
import Derived.Test.YtgbbgdjdomkohaaGreatKAK
import Derived.Deep.QuietTactic
namespace Go.Proofs.YtgbbgdjdomkohaaGreat
open Go.RowKit
section
variable {w w' : World} {B g m n cap s j : Nat} {e : TypeId} {v : Value} {cs : List Value}
theorem oc_head (h : w.ownsRow B e s v n cs) (hn : 0 < n) : ∃ g cap, v = .slice (some ⟨g, 0, none⟩) n cap ∧ n ≤ cap ∧ cap ≤ maxLen ∧ B ≤ g ∧ g < w.heap.size := by
  rcases h.2 with ⟨_, hz⟩ | ⟨g, cap, cur, rfl, hg, hh, hn, hc, hs, ht⟩
  · omega
  · exact ⟨g, cap, rfl, hn, hc, hg, (Array.getElem?_eq_some_iff.1 hh).1⟩
/-- Its value. -/
theorem oc_form (h : w.ownsRow B e s v n cs) : ∃ A cap, v = .slice A n cap ∧ n ≤ cap ∧ cap ≤ maxLen ∧ (A = none → cap = 0) ∧ (∀ p, A = some p → ∃ g, p = ⟨g, 0, none⟩ ∧ B ≤ g ∧ g < w.heap.size) := by
  rcases h.2 with ⟨rfl, hz⟩ | ⟨g, cap, cur, rfl, hg, hh, hn, hc, hs, ht⟩
  · exact ⟨none, 0, by rw [hz], by omega, by unfold maxLen; omega, fun _ => rfl, fun p hp => by cases hp⟩
  · exact ⟨some ⟨g, 0, none⟩, cap, rfl, hn, hc, (fun h => by cases h), fun p hp => ⟨g, by injection hp with hp; exact hp.symm, hg, (Array.getElem?_eq_some_iff.1 hh).1⟩⟩
theorem oc_blk (h : w.ownsRow B e s (.slice (some ⟨g, 0, none⟩) m cap) n cs) : ∃ cur, Blk w g e cur ∧ B ≤ g ∧ n ≤ cap ∧ m = n ∧ cur.size = cap * s ∧ cur.toList.take (n * s) = cs := by
  rcases h.2 with ⟨hz, _⟩ | ⟨g', cap', cur, hv, hg, hh, hn, hc, hs, ht⟩
  · cases hz
  · injection hv with e1 e2 e3
    injection e1 with e1
    injection e1 with e1
    subst e1 e2 e3
    exact ⟨cur, hh, hg, hn, rfl, hs, ht⟩
theorem oc_cell (h : w.ownsRow B e s (.slice (some ⟨g, 0, none⟩) m cap) n cs) (hj : j < n * s) : w.cell? ⟨g, j, none⟩ = cs[j]? ∧ w.frozen? ⟨g, j, none⟩ = false := by
  obtain ⟨cur, hb, _, _, _, hs, ht⟩ := oc_blk h
  refine ⟨?_, hb.free j⟩
  rw [hb.cell, ← ht, List.getElem?_take, if_pos hj]
  simp
theorem oc_put (h : w.ownsRow B e s (.slice (some ⟨g, 0, none⟩) m cap) n cs) (j : Nat) (u : Value) : (w.setCell ⟨g, j, none⟩ u).ownsRow B e s (.slice (some ⟨g, 0, none⟩) m cap) n (cs.set j u) := by
  have hl := h.1
  rcases h.2 with ⟨hz, _⟩ | ⟨g', cap', cur, hv, hg, hh, hn, hc, hs, ht⟩
  · cases hz
  · injection hv with e1 e2 e3
    injection e1 with e1
    injection e1 with e1
    subst e1 e2 e3
    have hb : Blk w g e cur := hh
    exact ⟨by simpa using hl, .inr ⟨g, cap, cur.setIfInBounds j u, rfl, hg, hb.put j u, hn, hc, by simpa using hs, by rw [Array.toList_setIfInBounds, List.take_set, ht]⟩⟩
theorem oc_keep (h : w.ownsRow B e s v n cs) (hb : ∀ i, B ≤ i → i < w.heap.size → w'.heap[i]? = w.heap[i]?) : w'.ownsRow B e s v n cs := by
  obtain ⟨h1, h2⟩ := h
  refine ⟨h1, ?_⟩
  rcases h2 with h2 | ⟨g, cap, cur, hv, hg, hh, r⟩
  · exact .inl h2
  · exact .inr ⟨g, cap, cur, hv, hg, by rw [hb g hg (Array.getElem?_eq_some_iff.1 hh).1]; exact hh, r⟩
theorem oc_on (h : w.ownsRow B e s v n cs) (hb : Below w.heap.size w w') : w'.ownsRow B e s v n cs := oc_keep h fun i _ hi => hb.block i hi
theorem oc_alloc (h : w.ownsRow B e s v n cs) (ob : Obj) : (w.alloc ob).ownsRow B e s v n cs := oc_on h (below_alloc w ob)
theorem oc_drewN (h : w.ownsRow B e s v n cs) (k : Nat) : (w.drewN k).ownsRow B e s v n cs := h
theorem oc_less (h : w.ownsRow B e s v n cs) {B' : Nat} (hB : B' ≤ B) : w.ownsRow B' e s v n cs := by
  obtain ⟨h1, h2⟩ := h
  refine ⟨h1, ?_⟩
  rcases h2 with h2 | ⟨g, cap, cur, hv, hg, r⟩
  · exact .inl h2
  · exact .inr ⟨g, cap, cur, hv, by omega, r⟩
/-- Another block turns. -/
theorem oc_far (h : w.ownsRow B e s (.slice (some ⟨g, 0, none⟩) m cap) n cs) {p : Addr} (hp : g ≠ p.block) (u : Value) : (w.setCell p u).ownsRow B e s (.slice (some ⟨g, 0, none⟩) m cap) n cs := by
  have hl := h.1
  rcases h.2 with ⟨hz, _⟩ | ⟨g', cap', cur, hv, hg, hh, r⟩
  · cases hz
  · have hv' := hv
    injection hv with e1 e2 e3
    injection e1 with e1
    injection e1 with e1
    subst e1
    exact ⟨hl, .inr ⟨g, cap', cur, hv', hg, (Below.heap_setCell w p u g hp).trans hh, r⟩⟩
theorem oc_cut (h : w.ownsRow B e s (.slice (some ⟨g, 0, none⟩) m cap) n cs) {k : Nat} (hk : k ≤ n) : w.ownsRow B e s (.slice (some ⟨g, 0, none⟩) k cap) k (cs.take (k * s)) := by
  have hl := h.1
  have hks : k * s ≤ n * s := Nat.mul_le_mul_right s hk
  rcases h.2 with ⟨hz, _⟩ | ⟨g', cap', cur, hv, hg, hh, hn, hc, hs, ht⟩
  · cases hz
  · injection hv with e1 e2 e3
    injection e1 with e1
    injection e1 with e1
    subst e1 e2 e3
    refine ⟨by rw [List.length_take]; omega, .inr ⟨g, cap, cur, rfl, hg, hh, by omega, hc, hs, ?_⟩⟩
    rw [← ht, List.take_take, Nat.min_eq_left hks]
/-- A block that has just been made. -/
theorem oc_new (w : World) (B : Nat) (e : TypeId) (s n : Nat) (cells : Array Value) (hc : cells.size = n * s) (hB : B ≤ w.heap.size) (hn : n ≤ maxLen) : (w.alloc (.cells cells e)).ownsRow B e s (.slice (some ⟨w.heap.size, 0, none⟩) n n) n cells.toList := by
  refine ⟨by simpa using hc, .inr ⟨w.heap.size, n, cells, rfl, hB, Blk.fresh w e cells, Nat.le_refl _, hn, hc, ?_⟩⟩
  rw [← hc]
  exact List.take_of_length_le (by simp)
/-- What an append to it leaves as it was. -/
theorem oc_grown (h : w.ownsRow B e s v n cs) (hg : w.grownBy w' v.ownBlock) (hs : B ≤ w.heap.size) : Below B w w' := by
  refine ⟨hg.os, hg.tape, hg.output, hg.size, fun i hi => hg.block i (by omega) ?_⟩
  rcases h.2 with ⟨rfl, _⟩ | ⟨g, cap, cur, rfl, hB, hh, _⟩
  · simp [Value.ownBlock]
  · simp [Value.ownBlock]; omega
end
section
variable {P : Program}
theorem oc_append {w : World} {B : Nat} {t ty e : TypeId} {s bytes : Nat} {v z : Value} {n m c : Nat} {cs news : List Value} {a : Addr} (ht : P.underlying t = some (.slice e))
    (hi : (P.info? e).map (fun i => (i.zero, i.size, i.bytes)) = some (some z, s, bytes)) (hzs : z.cells.size = s) (hsz : 0 < s) (hby : bytes ≤ 64)
    (hown : w.ownsRow B e s v n cs) (hl : news.length = m * s) (hc : ∀ j u, news[j]? = some u → w.cell? (a.add j) = some u) (h1 : ∀ u ∈ news, u.oneCell' = true) (hb : n + m ≤ 1099511627776) (hB : B ≤ w.heap.size) :
    ∃ v' w', (Builtin.append_ #[t, t] ty #[v, .slice (some a) m c]).run P w = .ok v' w' ∧ w'.ownsRow B e s v' (n + m) (cs ++ news) ∧ Below B w w' ∧ w.grownBy w' v.ownBlock ∧ (v'.ownBlock = v.ownBlock ∨ v'.ownBlock = some w.heap.size) := by
  obtain ⟨i, hi0, hz0, hz1, hz2⟩ := info_parts hi
  have hm : (n + m) * bytes ≤ 140737488355328 := Nat.le_trans (Nat.mul_le_mul hb hby) (by omega : 1099511627776 * 64 ≤ 140737488355328)
  obtain ⟨v', w', h2, h3, h4, _, h5⟩ := run_append_own_at (P := P) w B t ty e i z s bytes ht hi0 hz0 hz1 hz2 hzs hsz v n cs hown a m c news hl hc h1 (by unfold maxLen; omega) hm hB
  exact ⟨v', w', h2, h3, oc_grown hown h4 hB, h4, h5⟩
theorem size_run {elem : TypeId} {sz : Nat} (hs : (P.info? elem).map (·.size) = some sz) (w : World) : (sizeOf elem).run P w = .ok sz w := by
  cases hq : P.info? elem with
  | none => simp [hq] at hs
  | some i =>
    have : i.size = sz := by simpa [hq] using hs
    simp [sizeOf, typeInfo, hq, this]
/-- s[:m] -/
theorem run_less {t elem : TypeId} {sz : Nat} (hu : P.underlying t = some (.slice elem)) (hs : (P.info? elem).map (·.size) = some sz) (w : World) (g len cap m : Nat) (mi : Int) (hmi : mi = m) (hm : m ≤ cap) :
    (Instr.sliceAt t (.slice (some ⟨g, 0, none⟩) len cap) none (some (.int .i64 mi)) none).run P w = .ok (.slice (some ⟨g, 0, none⟩) m cap) w := by
  subst hmi
  have he : P.elem t = elem := by simp [Program.elem, hu]
  rw [run_sliceAt_slice w t _ _ _ _ (by rw [he]; exact hu), run_slice_h w t _ len cap (by rw [he]; exact hu) .i64 m (by omega) (by omega), he, size_run hs]
  simp [sliced, Addr.add_mid]
/-- s[n:] -/
theorem run_cutK {t elem : TypeId} {sz : Nat} (hu : P.underlying t = some (.slice elem)) (hs : (P.info? elem).map (·.size) = some sz) (w : World) (A : Option Addr) (len cap n : Nat) (ni : Int) (hni : ni = n) (hn : n ≤ len) :
    (Instr.sliceAt t (.slice A len cap) (some (.int .i64 ni)) none none).run P w = .ok (.slice (if cap = n then A else A.map (·.add (n * sz))) (len - n) (cap - n)) w := by
  subst hni
  have he : P.elem t = elem := by simp [Program.elem, hu]
  rw [run_sliceAt_slice w t _ _ _ _ (by rw [he]; exact hu), run_slice_l w t A len cap (by rw [he]; exact hu) .i64 n (by omega) (by omega), he, size_run hs]
  simp [sliced]
end
end Go.Proofs.YtgbbgdjdomkohaaGreat

/- Below, with the count of draws: it never goes down. -/
namespace Go.Proofs.YtgbbgdjdomkohaaGreat
open Go.RowKit Go.Sort

theorem viewStore_drawn {P : Program} {w w' : World} {at_ : Addr} {u : TypeId} {k : Addr} {v : Value} {m : Bool} {l : List Addr} (h : w.viewStore P at_ u k v m = .ok (w', l)) : w'.drawn = w.drawn := by
  unfold World.viewStore at h
  simp only [bind, Except.bind, pure, Except.pure] at h
  repeat' (first | (split at h) | (cases h; rfl) | (cases h))
theorem farStore_drawn {P : Program} {w w' : World} {a : Addr} {v : Value} {m : Bool} {l : List Addr} (h : w.farStore P a v m = .ok (w', l)) : w'.drawn = w.drawn := by
  unfold World.farStore at h
  split at h
  · split at h
    · rename_i r hr
      cases h
      exact viewStore_drawn hr
    · cases h
  · cases h
theorem ask_drawn {α : Type} : ∀ (a : Ask α) (w : World), w.drawn ≤ (w.ask a).2.drawn
  | .done _, w => by simp [World.ask]
  | .ask what range k, w => by
    rw [World.ask]
    split
    · exact ask_drawn _ _
    · exact Nat.le_trans (Nat.le_succ _) (ask_drawn _ { w with drawn := w.drawn + 1 })
theorem sys_drawn (w : World) (c : Sys) : w.drawn ≤ (w.sys c).2.drawn := by
  unfold World.sys
  have := ask_drawn (Kernel.perform c w.os) w
  split
  · exact Nat.le_refl _
  · rename_i h
    rw [h] at this
    exact this
/-- No run lowers the count of draws. -/
theorem run_drawn {α : Type} {P : Program} : ∀ (s : Sem α) {w w' : World} {a : α}, s.run P w = .ok a w' → w.drawn ≤ w'.drawn := by
  intro s
  induction s with
  | pure a => intro w w' b h; cases h; exact Nat.le_refl _
  | load m a k ih =>
    intro w w' b h
    rw [Sem.run] at h
    split at h
    · exact ih _ h
    · split at h
      · exact ih _ h
      · cases h
  | store m a v k ih =>
    intro w w' b h
    rw [Sem.run.eq_def] at h
    split at h <;> first | contradiction | (rename_i heq; cases heq)
    split at h
    · split at h
      · cases h
      · have := ih h
        exact this
    · split at h
      · rename_i e
        have h1 := ih h
        rw [farStore_drawn e] at h1
        exact h1
      · cases h
  | new o k ih => intro w w' b h; rw [Sem.run] at h; have := ih _ h; exact this
  | shape r k ih => intro w w' b h; rw [Sem.run] at h; exact ih _ h
  | freeze a n k ih =>
    intro w w' b h
    rw [Sem.run] at h
    have := ih h
    unfold World.freeze at this
    split at this <;> exact this
  | frozen a k ih => intro w w' b h; rw [Sem.run] at h; exact ih _ h
  | getObj r k ih =>
    intro w w' b h
    rw [Sem.run] at h
    split at h
    · cases h
    · exact ih _ h
    · cases h
  | setObj r o k ih =>
    intro w w' b h
    rw [Sem.run] at h
    split at h
    · cases h
    · have := ih h
      exact this
    · cases h
  | choose q k ih =>
    intro w w' b h
    rw [Sem.run] at h
    split at h
    · exact ih _ h
    · have := ih _ h
      exact Nat.le_trans (Nat.le_succ _) this
  | sys c k ih => intro w w' b h; rw [Sem.run] at h; exact Nat.le_trans (sys_drawn w c) (ih _ h)
  | program k ih => intro w w' b h; rw [Sem.run] at h; exact ih _ h
  | mark m k ih => intro w w' b h; rw [Sem.run] at h; exact ih h
  | halt e => intro w w' b h; cases h

/-- Below block number B the world is as it was, and no draw is taken back. -/
structure Bel (B : Nat) (w w' : World) : Prop extends Below B w w' where
  dr : w.drawn ≤ w'.drawn
section
variable {B B' : Nat} {a b c w w' : World}
instance : CoeOut (Bel B w w') (Below B w w') := ⟨Bel.toBelow⟩
theorem Bel.refl (B : Nat) (w : World) : Bel B w w := ⟨Below.refl B w, Nat.le_refl _⟩
theorem Bel.trans (h : Bel B a b) (k : Bel B b c) : Bel B a c := ⟨h.toBelow.trans k.toBelow, Nat.le_trans h.dr k.dr⟩
theorem Bel.mono (h : Bel B a b) (hB : B' ≤ B) : Bel B' a b := ⟨h.toBelow.mono hB, h.dr⟩
theorem Bel.alloc (h : Bel B a w) (hB : B ≤ w.heap.size) (o : Obj) : Bel B a (w.alloc o) := ⟨h.toBelow.alloc hB o, h.dr⟩
theorem Bel.drewN (h : Bel B a w) (n : Nat) : Bel B a (w.drewN n) := ⟨below_drawnN h.toBelow n, Nat.le_trans h.dr (Nat.le_add_right _ _)⟩
theorem Bel.setCell (h : Bel B a w) {p : Addr} (hp : B ≤ p.block) (u : Value) : Bel B a (w.setCell p u) := ⟨h.toBelow.setCell hp u, h.dr⟩
theorem Bel.of_run {α : Type} {P : Program} {s : Sem α} {v : α} (hr : s.run P w = .ok v w') (hb : Below B w w') : Bel B w w' := ⟨hb, run_drawn s hr⟩
theorem bel_alloc (w : World) (o : Obj) : Bel w.heap.size w (w.alloc o) := ⟨below_alloc w o, Nat.le_refl _⟩
/-- Such a world is the old one, some draws on, with blocks behind it. -/
theorem Bel.grow (h : Bel w.heap.size w w') : ∃ q os, w' = grow (w.drewN q) os := by
  obtain ⟨⟨d, os⟩, e⟩ := regrown_of_below h.toBelow
  have hd : w.drawn ≤ d := by
    have := h.dr
    rw [e] at this
    exact this
  refine ⟨d - w.drawn, os, ?_⟩
  rw [e]
  show Sort.grow { w with drawn := d } os = Sort.grow { w with drawn := w.drawn + (d - w.drawn) } os
  rw [Nat.add_sub_cancel' hd]
theorem bel_grow (w : World) (q : Nat) (os : Array Obj) : Bel w.heap.size w (Sort.grow (w.drewN q) os) :=
  ⟨⟨rfl, rfl, rfl, by simp [Sort.grow], fun k hk => by simp [Sort.grow, Array.getElem?_append, hk]⟩, Nat.le_add_right _ _⟩
end
end Go.Proofs.YtgbbgdjdomkohaaGreat

/- Package item: two items held against each other by themselves. -/
namespace Go.Proofs.YtgbbgdjdomkohaaGreat
open Go.RowKit

/-- A block of an item's four cells. -/
theorem iblk {w : World} {g : Nat} {t : TypeId} {a b c d : Value} (h : Blk w g t #[a, b, c, d]) :
    w.cell? ⟨g, 0, none⟩ = some a ∧ w.cell? ⟨g, 1, none⟩ = some b ∧ w.cell? ⟨g, 2, none⟩ = some c ∧ w.cell? ⟨g, 3, none⟩ = some d ∧ w.frozen? ⟨g, 3, none⟩ = false :=
  ⟨by rw [h.cell]; rfl, by rw [h.cell]; rfl, by rw [h.cell]; rfl, by rw [h.cell]; rfl, h.free 3⟩
/-- Two items boxed, one behind the other. -/
theorem iblk2 (w : World) (t : TypeId) (a b : Array Value) : ∃ w1, (w.alloc (.cells a t)).alloc (.cells b t) = w1 ∧ Blk w1 w.heap.size t a ∧ Blk w1 (w.heap.size + 1) t b ∧ Below w.heap.size w w1 :=
  ⟨_, rfl, (Blk.fresh w t a).alloc _, by have := Blk.fresh (w.alloc (.cells a t)) t b; rwa [World.size_alloc] at this, (below_alloc w _).alloc (by simp) _⟩
theorem iblk2B (w : World) (t : TypeId) (a b : Array Value) : ∃ w1, (w.alloc (.cells a t)).alloc (.cells b t) = w1 ∧ Blk w1 w.heap.size t a ∧ Blk w1 (w.heap.size + 1) t b ∧ Bel w.heap.size w w1 :=
  ⟨_, rfl, (Blk.fresh w t a).alloc _, by have := Blk.fresh (w.alloc (.cells a t)) t b; rwa [World.size_alloc] at this, (bel_alloc w _).alloc (by simp) _⟩
theorem iblk1 (w : World) (t : TypeId) (a : Array Value) : ∃ w1, w.alloc (.cells a t) = w1 ∧ Blk w1 w.heap.size t a ∧ Below w.heap.size w w1 :=
  ⟨_, rfl, Blk.fresh w t a, below_alloc w _⟩

set_option maxRecDepth 100000 in
set_option maxHeartbeats 2000000 in
theorem item_compareOneB (k1 n1 k2 n2 : Int) (s1 s2 : ByteArray) (A1 A2 : Option Addr) (m1 c1 m2 c2 : Nat) (w : World) :
    Calls Tryz.prog 65 #[.agg #[.int .i64 k1, .int .u64 n1, .string s1, .slice A1 m1 c1], .agg #[.int .i64 k2, .int .u64 n2, .string s2, .slice A2 m2 c2]] w fun e w' =>
      e = .returned (.int .i64 (orC (intC k1 k2) (intC n1 n2) (intC m1 m2) (textC s1 s2))) ∧ Bel w.heap.size w w' := by
  have C1 := Lib.hid (fun w => cmp_int k1 k2 w)
  have C2 := Lib.hid (fun w => cmp_u64 n1 n2 w)
  have C3 := Lib.hid (fun w => cmp_int m1 m2 w)
  have C4 := Lib.hid (fun w => strings_compare s1 s2 w)
  generalize intC k1 k2 = x1 at *
  generalize intC n1 n2 = x2 at *
  generalize intC m1 m2 = x3 at *
  generalize textC s1 s2 = x4 at *
  go_enter Tryz.func65, Tryz.ntmps65
  go_wp2_with fail
  obtain ⟨w1, hw1, b1, b2, S⟩ := iblk2B w 31 #[.int .i64 k1, .int .u64 n1, .string s1, .slice A1 m1 c1] #[.int .i64 k2, .int .u64 n2, .string s2, .slice A2 m2 c2]
  rw [hw1]
  clear hw1
  have HS := Lib.hid S
  clear S
  generalize hgg : w.heap.size = g at *
  obtain ⟨p0, p1, p2, p3, -⟩ := iblk b1
  obtain ⟨q0, q1, q2, q3, -⟩ := iblk b2
  clear b1 b2
  refine wp_region_quiet_tail 22 (by kernel_rfl) (by kernel_rfl) ?_
  simp only [List.take_succ_cons, List.take_zero, List.drop_succ_cons, List.drop_zero]
  repeat (quiet_step (first | (with_reducible exact Calls.quiet_of_same (C1.out _)) | (with_reducible exact Calls.quiet_of_same (C2.out _)) | (with_reducible exact Calls.quiet_of_same (C3.out _)) | (with_reducible exact Calls.quiet_of_same (C4.out _))))
  refine wpQuiet_nil ?_
  rintro _ ⟨q, rfl⟩
  have HS2 := Lib.hid (HS.out.drewN q)
  have hg : g ≤ (w1.drewN q).heap.size := Nat.le_of_lt (block_lt_of_cell p0)
  generalize w1.drewN q = w2 at *
  go_wp2_with (go_at_call 85; refine (cmp_or x1 x2 x3 x4 _ _ (fun i hi => ?_)).mono ?_)
  · rw [(Blk.fresh w2 _ _).cell]
    rcases (by omega : i = 0 ∨ i = 1 ∨ i = 2 ∨ i = 3) with rfl | rfl | rfl | rfl <;> rfl
  · rintro e w' ⟨rfl, rfl⟩
    go_wp2
    go_ret
    exact ⟨rfl, by rw [hgg]; exact HS2.out.trans ((bel_alloc w2 _).mono hg)⟩
theorem item_compareOne (k1 n1 k2 n2 : Int) (s1 s2 : ByteArray) (A1 A2 : Option Addr) (m1 c1 m2 c2 : Nat) (w : World) :
    Calls Tryz.prog 65 #[.agg #[.int .i64 k1, .int .u64 n1, .string s1, .slice A1 m1 c1], .agg #[.int .i64 k2, .int .u64 n2, .string s2, .slice A2 m2 c2]] w fun e w' =>
      e = .returned (.int .i64 (orC (intC k1 k2) (intC n1 n2) (intC m1 m2) (textC s1 s2))) ∧ Below w.heap.size w w' :=
  (item_compareOneB k1 n1 k2 n2 s1 s2 A1 A2 m1 c1 m2 c2 w).mono fun _ _ h => ⟨h.1, h.2.toBelow⟩
end Go.Proofs.YtgbbgdjdomkohaaGreat

/- The document's Same: two items in memory, whatever they share. -/
namespace Go.Proofs.YtgbbgdjdomkohaaGreat
open Go.RowKit

/-- An item by value. -/
def vI (t : It) (A : Option Addr) (cap : Nat) : Value := .agg #[.int .i64 t.k, .int .u64 t.n, .string t.s, .slice A t.l.length cap]
/-- .. and its items in memory. -/
structure AtV (w : World) (t : It) (A : Option Addr) (cap : Nat) : Prop where
  le : t.l.length ≤ cap
  nil : A = none → cap = 0
  at_ : AtL w (fun _ => True) t.l A
theorem AtV.on {w w' : World} {t : It} {A : Option Addr} {cap : Nat} (h : AtV w t A cap) (hb : Below w.heap.size w w') : AtV w' t A cap := ⟨h.le, h.nil, h.at_.on hb⟩
/-- Item number i: its cells, and what stands behind them. -/
theorem AtL.item {w : World} {l : List It} {A : Option Addr} (h : AtL w (fun _ => True) l A) {i : Nat} (hi : i < l.length) : ∃ b o X A' cap', A = some ⟨b, o, none⟩ ∧ b < w.heap.size ∧ l[i]? = some X ∧ X ∈ l ∧
    w.cell? ⟨b, o + i * 4, none⟩ = some (.int .i64 X.k) ∧ w.cell? ⟨b, o + i * 4 + 1, none⟩ = some (.int .u64 X.n) ∧ w.cell? ⟨b, o + i * 4 + 2, none⟩ = some (.string X.s) ∧
    w.cell? ⟨b, o + i * 4 + 3, none⟩ = some (.slice A' X.l.length cap') ∧ AtV w X A' cap' := by
  obtain ⟨b, o, rfl, _, hb, h1, _⟩ := h.get hi
  rw [Nat.mul_comm 4 i] at h1
  obtain ⟨A', cap', c0, c1, c2, c3, g1, g2, g3⟩ := h1.parts
  exact ⟨b, o, l[i], A', cap', rfl, hb, List.getElem?_eq_getElem hi, List.getElem_mem hi, c0, c1, c2, c3, g1, g2, g3⟩

theorem text_eq {a b : ByteArray} (h : a.toList = b.toList) : a = b := by
  rw [ByteArray.toList_eq, ByteArray.toList_eq] at h
  exact ByteArray.ext (Array.toList_inj.1 h)
theorem sameB_fields {x y : It} (h : ¬ (x.k = y.k ∧ x.n = y.n ∧ x.s = y.s ∧ x.l.length = y.l.length)) : sameB x y = false := by
  cases hb : sameB x y
  · rfl
  · rw [sameB_true] at hb
    subst hb
    simp at h


end Go.Proofs.YtgbbgdjdomkohaaGreat

/- The document's over: deeper, wider, longer texts than are looked at. -/
namespace Go.Proofs.YtgbbgdjdomkohaaGreat
open Go.RowKit

def overB : Nat → It → Bool
  | 0, _ => true
  | d + 1, t => decide (200 < t.l.length) || decide (300 < t.s.size) || t.l.any (overB d)
theorem any_none {l : List It} {p : It → Bool} (h : ∀ (j : Nat) (X : It), l[j]? = some X → p X = false) : l.any p = false := by
  rw [List.any_eq_false]
  intro x hx
  obtain ⟨j, hj⟩ := List.mem_iff_getElem?.1 hx
  simp [h j x hj]

end Go.Proofs.YtgbbgdjdomkohaaGreat

/- Items by value on slices of the call's own. -/
namespace Go.Proofs.YtgbbgdjdomkohaaGreat
open Go.RowKit

/-- An item's items lie in memory, all below block n. -/
structure AtB (w : World) (n : Nat) (t : It) (A : Option Addr) (cap : Nat) : Prop where
  le : t.l.length ≤ cap
  nil : A = none → cap = 0
  at_ : AtL w (· < n) t.l A
def ic (t : It) (A : Option Addr) (cap : Nat) : List Value := [.int .i64 t.k, .int .u64 t.n, .string t.s, .slice A t.l.length cap]
theorem ic_one (t : It) (A : Option Addr) (cap : Nat) : ∀ u ∈ ic t A cap, u.oneCell' = true := by
  intro u hu
  simp only [ic, List.mem_cons, List.not_mem_nil, or_false] at hu
  rcases hu with rfl | rfl | rfl | rfl <;> rfl
/-- The cells of items, one behind the other. -/
def Lay (w : World) (n : Nat) : List It → List Value → Prop
  | [], cs => cs = []
  | t :: r, cs => ∃ A cap cs', cs = ic t A cap ++ cs' ∧ AtB w n t A cap ∧ Lay w n r cs'
/-- A slice of the call's own that reads as items. -/
def OwnI (w : World) (n B : Nat) (v : Value) (its : List It) : Prop := ∃ cs, w.ownsRow B 31 4 v its.length cs ∧ Lay w n its cs
section
variable {w w' : World} {n n' B g cap : Nat} {t : It} {A : Option Addr} {v : Value} {its xs : List It} {cs cs' : List Value}
theorem AtB.toV (h : AtB w n t A cap) : AtV w t A cap := ⟨h.le, h.nil, h.at_.more fun _ _ => trivial⟩
theorem AtB.keep (h : AtB w n t A cap) (hb : Below n w w') : AtB w' n t A cap := ⟨h.le, h.nil, AtL.keep (fun b hlt _ => hb.block b hlt) (fun _ h => h) _ _ h.at_⟩
theorem AtB.more (h : AtB w n t A cap) (hn : n ≤ n') : AtB w n' t A cap := ⟨h.le, h.nil, h.at_.more fun _ h => Nat.lt_of_lt_of_le h hn⟩
theorem AtV.toB (h : AtV w t A cap) : AtB w w.heap.size t A cap := by
  refine ⟨h.le, h.nil, ?_⟩
  have : ∀ (l : List It) (A : Option Addr), AtL w (fun _ => True) l A → AtL w (· < w.heap.size) l A := by
    suffices H : ∀ (c : Nat) (l : List It) (A : Option Addr), countL l ≤ c → AtL w (fun _ => True) l A → AtL w (· < w.heap.size) l A from fun l A => H _ l A (Nat.le_refl _)
    intro c
    induction c with
    | zero =>
      intro l A hc h
      cases l with
      | nil => exact AtL.nil _
      | cons t r => rw [countL, It.count_eq] at hc; omega
    | succ c ih =>
      intro l A hc h
      cases l with
      | nil => exact AtL.nil _
      | cons t r =>
        rw [countL, It.count_eq] at hc
        obtain ⟨b, o, rfl, _, hb, h1, h2⟩ := h.cons
        obtain ⟨A', cap', c0, c1, c2, c3, g1, g2, g3⟩ := h1.parts
        exact AtL.mk hb hb (At1.mk A' cap' c0 c1 c2 c3 g1 g2 (ih _ _ (by omega) g3)) (ih _ _ (by omega) h2)
  exact this _ _ h.at_
/-- Item number i: its cells, and what stands behind them. -/
theorem AtB.item (h : AtB w n t A cap) {i : Nat} (hi : i < t.l.length) : ∃ b o X A' cap', A = some ⟨b, o, none⟩ ∧ b < n ∧ b < w.heap.size ∧ t.l[i]? = some X ∧ X ∈ t.l ∧
    w.cell? ⟨b, o + i * 4, none⟩ = some (.int .i64 X.k) ∧ w.cell? ⟨b, o + i * 4 + 1, none⟩ = some (.int .u64 X.n) ∧ w.cell? ⟨b, o + i * 4 + 2, none⟩ = some (.string X.s) ∧
    w.cell? ⟨b, o + i * 4 + 3, none⟩ = some (.slice A' X.l.length cap') ∧ AtB w n X A' cap' := by
  obtain ⟨b, o, rfl, hn, hb, h1, _⟩ := h.at_.get hi
  rw [Nat.mul_comm 4 i] at h1
  obtain ⟨A', cap', c0, c1, c2, c3, g1, g2, g3⟩ := h1.parts
  exact ⟨b, o, t.l[i], A', cap', rfl, hn, hb, List.getElem?_eq_getElem hi, List.getElem_mem hi, c0, c1, c2, c3, g1, g2, g3⟩
theorem Lay.one (h : AtB w n t A cap) : Lay w n [t] (ic t A cap) := ⟨A, cap, [], by simp, h, rfl⟩
theorem Lay.append : ∀ {its : List It} {cs : List Value}, Lay w n its cs → Lay w n xs cs' → Lay w n (its ++ xs) (cs ++ cs')
  | [], cs, h, k => by cases (show cs = [] from h); exact k
  | t :: r, cs, ⟨A, cap, c, e, h1, h2⟩, k => ⟨A, cap, c ++ cs', by rw [e, List.append_assoc], h1, Lay.append h2 k⟩
theorem Lay.keep (hb : Below n w w') : ∀ {its : List It} {cs : List Value}, Lay w n its cs → Lay w' n its cs
  | [], _, h => h
  | _ :: _, _, ⟨A, cap, c, e, h1, h2⟩ => ⟨A, cap, c, e, h1.keep hb, Lay.keep hb h2⟩
theorem Lay.more (hn : n ≤ n') : ∀ {its : List It} {cs : List Value}, Lay w n its cs → Lay w n' its cs
  | [], _, h => h
  | _ :: _, _, ⟨A, cap, c, e, h1, h2⟩ => ⟨A, cap, c, e, h1.more hn, Lay.more hn h2⟩
theorem Lay.one_cell : ∀ {its : List It} {cs : List Value}, Lay w n its cs → ∀ u ∈ cs, u.oneCell' = true
  | [], cs, h, u, hu => by cases (show cs = [] from h); cases hu
  | t :: r, cs, ⟨A, cap, c, e, h1, h2⟩, u, hu => by
    subst e
    rcases List.mem_append.1 hu with h | h
    · exact ic_one _ _ _ u h
    · exact h2.one_cell u h
theorem Lay.length : ∀ {its : List It} {cs : List Value}, Lay w n its cs → cs.length = its.length * 4
  | [], cs, h => by cases (show cs = [] from h); rfl
  | t :: r, cs, ⟨A, cap, c, e, h1, h2⟩ => by
    subst e
    have := h2.length
    simp only [List.length_append, List.length_cons, ic, List.length_nil, this]
    omega
theorem Lay.get : ∀ {its : List It} {cs : List Value}, Lay w n its cs → ∀ {i : Nat} {X : It}, its[i]? = some X → ∃ A cap, cs[i * 4]? = some (.int .i64 X.k) ∧ cs[i * 4 + 1]? = some (.int .u64 X.n) ∧ cs[i * 4 + 2]? = some (.string X.s) ∧ cs[i * 4 + 3]? = some (.slice A X.l.length cap) ∧ AtB w n X A cap
  | [], _, _, i, X, hX => by cases hX
  | t :: r, cs, ⟨A, cap, c, e, h1, h2⟩, i, X, hX => by
    subst e
    cases i with
    | zero =>
      obtain rfl : t = X := by simpa using hX
      exact ⟨A, cap, rfl, rfl, rfl, rfl, h1⟩
    | succ i =>
      obtain ⟨A', cap', c0, c1, c2, c3, h⟩ := h2.get (i := i) (X := X) (by simpa using hX)
      refine ⟨A', cap', ?_, ?_, ?_, ?_, h⟩ <;> rw [show (i + 1) * 4 = i * 4 + 4 by omega]
      · exact c0
      · exact c1
      · exact c2
      · exact c3
theorem OwnI.keepB (h : OwnI w n B v its) (hb : Below w.heap.size w w') (hn : n ≤ w.heap.size) : OwnI w' n B v its :=
  let ⟨cs, h1, h2⟩ := h
  ⟨cs, oc_on h1 hb, h2.keep (hb.mono hn)⟩
theorem OwnI.less (h : OwnI w n B v its) {B' : Nat} (hB : B' ≤ B) : OwnI w n B' v its :=
  let ⟨cs, h1, h2⟩ := h
  ⟨cs, oc_less h1 hB, h2⟩
/-- While another slice is appended to. -/
theorem OwnI.kept (h : OwnI w n B v its) {row : Option Nat} (hg : w.grownBy w' row) (hb : Below n w w') (hne : v.ownBlock ≠ row ∨ v.ownBlock = none) : OwnI w' n B v its :=
  let ⟨cs, h1, h2⟩ := h
  ⟨cs, h1.kept hg hne.symm, h2.keep hb⟩
theorem OwnI.form (h : OwnI w n B v its) (hn : 0 < its.length) : ∃ g cap, v = .slice (some ⟨g, 0, none⟩) its.length cap ∧ its.length ≤ cap ∧ cap ≤ maxLen ∧ B ≤ g ∧ g < w.heap.size :=
  let ⟨_, h1, _⟩ := h
  oc_head h1 hn
theorem OwnI.item (h : OwnI w n B (.slice (some ⟨g, 0, none⟩) its.length cap) its) {i : Nat} (hi : i < its.length) : ∃ X A' cap', its[i]? = some X ∧ X ∈ its ∧
    w.cell? ⟨g, i * 4, none⟩ = some (.int .i64 X.k) ∧ w.cell? ⟨g, i * 4 + 1, none⟩ = some (.int .u64 X.n) ∧ w.cell? ⟨g, i * 4 + 2, none⟩ = some (.string X.s) ∧
    w.cell? ⟨g, i * 4 + 3, none⟩ = some (.slice A' X.l.length cap') ∧ AtB w n X A' cap' := by
  obtain ⟨cs, h1, h2⟩ := h
  have hX := List.getElem?_eq_getElem hi
  obtain ⟨A, c, c0, c1, c2, c3, h3⟩ := h2.get hX
  exact ⟨its[i], A, c, hX, List.getElem_mem hi, (oc_cell h1 (by omega)).1.trans c0, (oc_cell h1 (by omega)).1.trans c1, (oc_cell h1 (by omega)).1.trans c2, (oc_cell h1 (by omega)).1.trans c3, h3⟩
end
theorem infoItem : (Tryz.prog.info? 31).map (fun i => (i.zero, i.size, i.bytes)) = some (some (.agg #[.int .i64 0, .int .u64 0, .string ⟨#[]⟩, .slice none 0 0]), 4, 56) := by kernel_rfl
theorem sizeItem : (Tryz.prog.info? 31).map (·.size) = some 4 := by kernel_rfl
/-- append of items to a slice of the call's own. -/
theorem run_append_items {w : World} {n B : Nat} {ty : TypeId} {v v2 : Value} {its xs : List It} {B2 : Nat} (hown : OwnI w n B v its) (h2 : OwnI w n B2 v2 xs) (hx : 0 < xs.length) (hsz : its.length + xs.length ≤ 1099511627776) (hB : B ≤ w.heap.size) (hn : n ≤ B) :
    ∃ v' w', (Builtin.append_ #[29, 29] ty #[v, v2]).run Tryz.prog w = .ok v' w' ∧ OwnI w' n B v' (its ++ xs) ∧ Below B w w' ∧ w.grownBy w' v.ownBlock := by
  obtain ⟨cs, o1, l1⟩ := hown
  obtain ⟨cs2, o2, l2⟩ := h2
  obtain ⟨g2, cap2, rfl, _, _, _, _⟩ := oc_head o2 hx
  obtain ⟨v', w', r1, r2, r3, r4, _⟩ := oc_append (P := Tryz.prog) (t := 29) (ty := ty) (e := 31) (s := 4) (bytes := 56) (m := xs.length) (c := cap2) (news := cs2) (a := ⟨g2, 0, none⟩) (by kernel_rfl) infoItem rfl (by decide) (by decide) o1 l2.length
    (fun j u hj => by
      have hj' : j < xs.length * 4 := by
        rw [← l2.length]
        rcases Nat.lt_or_ge j cs2.length with h | h
        · exact h
        · rw [List.getElem?_eq_none h] at hj; cases hj
      rw [Addr.add_mid, Nat.zero_add]
      exact (oc_cell o2 hj').1.trans hj) l2.one_cell hsz hB
  exact ⟨v', w', r1, ⟨cs ++ cs2, by rw [List.length_append]; exact r2, (l1.append l2).keep (r3.mono hn)⟩, r3, r4⟩
end Go.Proofs.YtgbbgdjdomkohaaGreat
