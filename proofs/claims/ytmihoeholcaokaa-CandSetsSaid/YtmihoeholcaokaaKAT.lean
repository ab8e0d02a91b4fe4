/- Two nodes held against each other: the program's, the document's. -/
import Derived.Test.YtmihoeholcaokaaKAS
namespace Go.Proofs.Ytmihoeholcaokaa
open Go.RowKit

/-- Two nodes boxed, one behind the other. -/
theorem nblk2 (w : World) (t : TypeId) (a b : Array Value) : ∃ w1, (w.alloc (.cells a t)).alloc (.cells b t) = w1 ∧ Blk w1 w.heap.size t a ∧ Blk w1 (w.heap.size + 1) t b ∧ Below w.heap.size w w1 := iblk2 w t a b
theorem sameN_parts (x y : Nd) : sameN x y = (decide (x.k = y.k) && decide (x.lo = y.lo) && decide (x.hi = y.hi) && sameB x.v y.v && sameL x.l y.l && sameL x.f y.f) := by
  refine sameN_of ?_
  simp only [Bool.and_eq_true, decide_eq_true_eq, sameB_true, sameL_true, Nd.eq_iff, and_assoc]

set_option maxRecDepth 100000 in
set_option maxHeartbeats 4000000 in
theorem sch_sameNode (x y : Nd) (p q : Pl) (n : Nat) (w : World) (hn : n ≤ w.heap.size) (hx : NdB w n x p) (hy : NdB w n y q) (hc : x.v.count ≤ 1099511627775) (hl : x.l.length ≤ 1099511627776) (hf : x.f.length ≤ 1099511627776) :
    Calls Try.prog 30 #[vN x p, vN y q] w fun e w' => e = .returned (.bool (sameN x y)) ∧ Below w.heap.size w w' := by
  obtain ⟨w1, hw1, b1, b2, S⟩ := nblk2 w 42 (nc x p) (nc y q)
  have C1 := fun W (hW : Below w.heap.size w W) => item_Same x.v y.v p.Av q.Av p.cv q.cv n W hc (Nat.le_trans hn hW.size) (hx.v.keep (hW.mono hn)) (hy.v.keep (hW.mono hn))
  have C2 := fun W (hW : Below w.heap.size w W) => eq_ints x.l y.l p.Al q.Al p.cl q.cl n W (Nat.le_trans hn hW.size) (hx.l.below (hW.mono hn)) (hy.l.below (hW.mono hn)) hl
  have C3 := fun W (hW : Below w.heap.size w W) => eq_fields x.f y.f p.Af q.Af p.cf q.cf n W (Nat.le_trans hn hW.size) (hx.f.keep (hW.mono hn)) (hy.f.keep (hW.mono hn)) hf
  rw [sameN_parts]
  generalize sameB x.v y.v = r1 at *
  generalize sameL x.l y.l = r2 at *
  generalize sameL x.f y.f = r3 at *
  have HC1 := Lib.hid C1
  have HC2 := Lib.hid C2
  have HC3 := Lib.hid C3
  have HS := Lib.hid S
  have hcl : ∀ W, Below w1.heap.size w1 W → (W.cell? ⟨w.heap.size, 7, none⟩ = some (.slice p.Al x.l.length p.cl) ∧ W.cell? ⟨w.heap.size, 8, none⟩ = some (.slice p.Af x.f.length p.cf)) ∧ W.cell? ⟨w.heap.size + 1, 7, none⟩ = some (.slice q.Al y.l.length q.cl) ∧ W.cell? ⟨w.heap.size + 1, 8, none⟩ = some (.slice q.Af y.f.length q.cf) := fun W hb =>
    ⟨⟨by rw [(b1.on hb).cell]; rfl, by rw [(b1.on hb).cell]; rfl⟩, by rw [(b2.on hb).cell]; rfl, by rw [(b2.on hb).cell]; rfl⟩
  have HCL := Lib.hid hcl
  unfold nc at b1 b2 hw1
  obtain ⟨p0, p1, p2, p3, p4, p5, p6, p7, p8⟩ := nblk b1
  obtain ⟨q0, q1, q2, q3, q4, q5, q6, q7, q8⟩ := nblk b2
  clear C1 C2 C3 S b1 b2 hcl hx hy hn hc hl hf
  simp only [vN, vI] at HC1 ⊢
  go_enter Try.func30, Try.ntmps30
  cases r1 <;> cases r2 <;> cases r3 <;>
  · go_wp2_with (first
      | (go_at_call 34; refine (HC1.out _ HS.out).mono ?_; rintro e w2 ⟨rfl, hb2⟩; obtain ⟨⟨a7, a8⟩, c7, c8⟩ := HCL.out w2 hb2; have HB2 := Lib.hid hb2; clear hb2)
      | (go_at_call 35; refine (HC2.out _ (HS.out.trans (HB2.out.mono HS.out.size))).mono ?_; rintro e w3 ⟨rfl, hb3⟩; have HB3 := Lib.hid (HB2.out.trans (hb3.mono HB2.out.size)); obtain ⟨⟨f7, f8⟩, g7, g8⟩ := HCL.out w3 HB3.out; clear hb3)
      | (go_at_call 36; refine (HC3.out _ (HS.out.trans (HB3.out.mono HS.out.size))).mono ?_; rintro e w4 ⟨rfl, hb4⟩; have HB4 := Lib.hid (HB3.out.trans (hb4.mono HB3.out.size)); clear hb4))
    all_goals go_ret
    all_goals first
      | exact ⟨by simp [*], HS.out.trans (HB4.out.mono HS.out.size)⟩
      | exact ⟨by simp [*], HS.out.trans (HB3.out.mono HS.out.size)⟩
      | exact ⟨by simp [*], HS.out.trans (HB2.out.mono HS.out.size)⟩
      | exact ⟨by simp [*], HS.out⟩

/-- One round of a loop that holds two lists against each other: what lies at place k. -/
structure Two {α : Type} (xs ys : List α) (m k : Nat) : Prop where
  lx : xs.length = m
  ly : ys.length = m
  eq : ∀ j, j < k → xs[j]? = ys[j]?
theorem Two.all {α : Type} {xs ys : List α} {m : Nat} (h : Two xs ys m m) : xs = ys := list_eq_upto (h.lx.trans h.ly.symm) (by rw [h.lx]; exact h.eq)
theorem Two.next {α : Type} {xs ys : List α} {m k : Nat} {x y : α} (h : Two xs ys m k) (hx : xs[k]? = some x) (hy : ys[k]? = some y) (e : x = y) : Two xs ys m (k + 1) := ⟨h.lx, h.ly, fun j hj => by
  by_cases e' : j = k
  · subst e'; rw [hx, hy, e]
  · exact h.eq j (by omega)⟩
theorem Two.ne {α : Type} {xs ys : List α} {k : Nat} {x y : α} (hx : xs[k]? = some x) (hy : ys[k]? = some y) (e : x ≠ y) : xs ≠ ys := list_ne_at (k := k) (by rw [hx, hy]; exact fun h => e (by injection h))

end Go.Proofs.Ytmihoeholcaokaa

/- A copy that is under way: new lists, whose items' lists are new or still the old ones. -/
namespace Go.Proofs.Ytmihoeholcaokaa
open Go.RowKit

/-- Item number i of the new list in block g; p: its list is still the old one. -/
def ItemAt (w : World) (n : Nat) (M : Nat → Option (List It)) (p : Prop) (g i : Nat) (X : It) : Prop :=
  ∃ A cap, w.cell? ⟨g, i * 4, none⟩ = some (.int .i64 X.k) ∧ w.cell? ⟨g, i * 4 + 1, none⟩ = some (.int .u64 X.n) ∧ w.cell? ⟨g, i * 4 + 2, none⟩ = some (.string X.s) ∧ w.cell? ⟨g, i * 4 + 3, none⟩ = some (.slice A X.l.length cap) ∧
    X.l.length ≤ cap ∧ (A = none → cap = 0) ∧ (p → RL w n X.l A cap) ∧ (¬ p → X.l = [] ∨ ∃ g', A = some ⟨g', 0, none⟩ ∧ M g' = some X.l)
/-- M tells which new lists there are, P which items have still their old lists. -/
def Inv (w : World) (n B : Nat) (M : Nat → Option (List It)) (P : Nat → Nat → Prop) : Prop :=
  ∀ g l, M g = some l → B ≤ g ∧ (∃ cs, Blk w g 39 cs ∧ l.length * 4 ≤ cs.size) ∧ ∀ i X, l[i]? = some X → ItemAt w n M (P g i) g i X
section
variable {w w' : World} {n B g i j cap : Nat} {M M' : Nat → Option (List It)} {P Q : Nat → Nat → Prop} {p : Prop} {X : It} {l : List It} {v : Value}
theorem ItemAt.moved (h : ItemAt w n M p g i X) (hb : ∀ o, o < 4 → w'.cell? ⟨g, i * 4 + o, none⟩ = w.cell? ⟨g, i * 4 + o, none⟩) (hn : Below n w w') (hM : ∀ b l, M b = some l → M' b = some l) : ItemAt w' n M' p g i X := by
  obtain ⟨A, cap, c0, c1, c2, c3, h1, h2, h3, h4⟩ := h
  exact ⟨A, cap, (hb 0 (by omega)).trans c0, (hb 1 (by omega)).trans c1, (hb 2 (by omega)).trans c2, (hb 3 (by omega)).trans c3, h1, h2, fun q => (h3 q).keep hn,
    fun q => (h4 q).imp id fun ⟨g', e, m⟩ => ⟨g', e, hM _ _ m⟩⟩
theorem Inv.congr (h : Inv w n B M P) (hq : ∀ g l i, M g = some l → i < l.length → (P g i ↔ Q g i)) : Inv w n B M Q := fun g l hg => by
  obtain ⟨h1, h2, h3⟩ := h g l hg
  refine ⟨h1, h2, fun i X hX => ?_⟩
  obtain ⟨A, cap, c0, c1, c2, c3, e1, e2, e3, e4⟩ := h3 i X hX
  have hi := (take_at hX).2
  have e := hq g l i hg hi
  exact ⟨A, cap, c0, c1, c2, c3, e1, e2, fun q => e3 (e.2 q), fun q => e4 fun k => q (e.1 k)⟩
/-- Carried to a world in which those blocks lie as they lay. -/
theorem Inv.moved (h : Inv w n B M P) (hb : ∀ g l, M g = some l → w'.heap[g]? = w.heap[g]?) (hn : Below n w w') : Inv w' n B M P := fun g l hg => by
  obtain ⟨h1, ⟨cs, h2, h2'⟩, h3⟩ := h g l hg
  have e := hb g l hg
  refine ⟨h1, ⟨cs, (e.trans h2), h2'⟩, fun i X hX => (h3 i X hX).moved (fun o _ => ?_) hn fun _ _ h => h⟩
  exact World.cell?_of_block (w := w) (a := ⟨g, i * 4 + o, none⟩) e
theorem Inv.on (h : Inv w n B M P) (hb : Below w.heap.size w w') (hn : n ≤ w.heap.size) : Inv w' n B M P := h.moved (fun g l hg => by
  obtain ⟨_, ⟨cs, h2, _⟩, _⟩ := h g l hg
  exact hb.block g h2.lt) (hb.mono hn)
/-- Another slice, of another type, is appended to. -/
theorem Inv.grown (h : Inv w n B M P) {e : TypeId} {s m : Nat} {cs : List Value} {B' : Nat} (he : e ≠ 39) (ho : w.ownsRow B' e s v m cs) (hg : w.grownBy w' v.ownBlock) (hn : Below n w w') : Inv w' n B M P := h.moved (fun g l hl => by
  obtain ⟨_, ⟨cs', h2, _⟩, _⟩ := h g l hl
  refine hg.block g h2.lt fun e' => ?_
  rcases ho.2 with ⟨rfl, _⟩ | ⟨g', cap, cur, rfl, _, hh, _⟩
  · simp [Value.ownBlock] at e'
  · simp only [Value.ownBlock] at e'
    injection e' with e'
    subst e'
    have h2' : w.heap[g]? = _ := h2
    rw [hh] at h2'
    injection h2' with h2'
    injection h2' with _ h3 _
    exact he h3) hn
theorem Inv.start0 (w : World) (n B : Nat) (P : Nat → Nat → Prop) : Inv w n B (fun _ => .none) P := fun _ _ h => by cases h
/-- A list's clone, as item of a copy. -/
theorem clone_at (h : OwnI w n B v l) (hne : l ≠ []) : ∃ g cap, v = .slice (some ⟨g, 0, none⟩) l.length cap ∧ l.length ≤ cap ∧ B ≤ g ∧ g < w.heap.size ∧ (∃ cs, Blk w g 39 cs ∧ l.length * 4 ≤ cs.size) ∧ ∀ M i X, l[i]? = some X → ItemAt w n M True g i X := by
  have hl : 0 < l.length := List.length_pos_iff.2 hne
  obtain ⟨g, cap, rfl, h1, h2, h3, h4⟩ := h.form hl
  refine ⟨g, cap, rfl, h1, h3, h4, ?_, fun M i X hX => ?_⟩
  · obtain ⟨cs, o, _⟩ := h
    obtain ⟨cur, hb, _, _, _, hs, _⟩ := oc_blk o
    exact ⟨cur, hb, by rw [hs]; exact Nat.mul_le_mul_right 4 h1⟩
  · obtain ⟨_, hi⟩ := take_at hX
    obtain ⟨X', A', cap', hX', _, c0, c1, c2, c3, h⟩ := h.item hi
    rw [hX] at hX'
    cases hX'
    exact ⟨A', cap', c0, c1, c2, c3, h.le, h.nil, fun _ => h.rl, fun q => absurd trivial q⟩
theorem Inv.one (h : OwnI w n B v l) (hne : l ≠ []) : ∃ g cap, v = .slice (some ⟨g, 0, none⟩) l.length cap ∧ l.length ≤ cap ∧ B ≤ g ∧ Inv w n B (fun b => if b = g then some l else .none) fun b _ => b = g := by
  obtain ⟨g, cap, e, h1, h2, h3, h4, h5⟩ := clone_at h hne
  refine ⟨g, cap, e, h1, h2, fun b l' hb => ?_⟩
  by_cases e' : b = g
  · subst e'
    simp only [if_true] at hb
    cases hb
    refine ⟨h2, h4, fun i X hX => ?_⟩
    have := h5 (fun b' => if b' = b then some l else .none) i X hX
    simpa using this
  · simp [e'] at hb
/-- An item of the copy gets its own list. -/
theorem Inv.step (h : Inv w n B M P) (hg : M g = some l) (hX : l[j]? = some X) (hn : n ≤ B) (hB : B ≤ w.heap.size) (ho : OwnI w' n w.heap.size v X.l) (hb : Below w.heap.size w w') :
    ∃ M', (∀ b l, M b = some l → M' b = some l) ∧ (∀ b l, M' b = some l → M b = some l ∨ w.heap.size ≤ b) ∧ Inv (w'.setCell ⟨g, j * 4 + 3, none⟩ v) n B M' (fun b i => (w.heap.size ≤ b ∨ P b i) ∧ ¬ (b = g ∧ i = j)) ∧
      Below B w (w'.setCell ⟨g, j * 4 + 3, none⟩ v) ∧ (∃ A cap, v = .slice A X.l.length cap ∧ X.l.length ≤ cap ∧ ((X.l = [] ∧ ∀ b l, M' b = some l → M b = some l) ∨ (X.l ≠ [] ∧ ∃ g', A = some ⟨g', 0, none⟩ ∧ M' g' = some X.l ∧ w.heap.size ≤ g' ∧ g' < w'.heap.size ∧ ∀ b l, M' b = some l → w.heap.size ≤ b → b = g'))) := by
  obtain ⟨k1, ⟨cs, k2, k3⟩, k4⟩ := h g l hg
  have hjl := (take_at hX).2
  have k2' := k2.on hb
  have hgw : g < w.heap.size := k2.lt
  have hBB : Below B w (w'.setCell ⟨g, j * 4 + 3, none⟩ v) := (hb.mono hB).trans ((Below.refl B w').setCell (p := ⟨g, j * 4 + 3, none⟩) k1 v)
  have hcell : ∀ b o, (b = g → o ≠ j * 4 + 3) → (w'.setCell ⟨g, j * 4 + 3, none⟩ v).cell? ⟨b, o, none⟩ = w'.cell? ⟨b, o, none⟩ := fun b o hne => by
    by_cases e : b = g
    · subst e
      rw [(k2'.put (j * 4 + 3) v).cell, k2'.cell]
      exact Array.getElem?_setIfInBounds_ne (fun e => hne rfl e.symm)
    · exact World.cell?_of_block (w := w') (a := ⟨b, o, none⟩) (Below.heap_setCell w' ⟨g, j * 4 + 3, none⟩ v b e)
  have hown : (w'.setCell ⟨g, j * 4 + 3, none⟩ v).cell? ⟨g, j * 4 + 3, none⟩ = some v := by
    rw [(k2'.put (j * 4 + 3) v).cell, Array.getElem?_setIfInBounds_self_of_lt]
    omega
  -- the items that were there
  have old : ∀ (M' : Nat → Option (List It)), (∀ b l, M b = some l → M' b = some l) → (∃ A cap, v = .slice A X.l.length cap ∧ X.l.length ≤ cap ∧ (A = .none → cap = 0) ∧ (X.l = [] ∨ ∃ g', A = some ⟨g', 0, .none⟩ ∧ M' g' = some X.l)) →
      ∀ b l', M b = some l' → B ≤ b ∧ (∃ cs, Blk (w'.setCell ⟨g, j * 4 + 3, .none⟩ v) b 39 cs ∧ l'.length * 4 ≤ cs.size) ∧ ∀ i Y, l'[i]? = some Y → ItemAt (w'.setCell ⟨g, j * 4 + 3, .none⟩ v) n M' ((w.heap.size ≤ b ∨ P b i) ∧ ¬ (b = g ∧ i = j)) b i Y := by
    intro M' hM ⟨A, cap, ev, hv1, hv2, hv3⟩ b l' hb'
    obtain ⟨q1, ⟨cs', q2, q3⟩, q4⟩ := h b l' hb'
    have q2' := q2.on hb
    refine ⟨q1, ?_, fun i Y hY => ?_⟩
    · by_cases e : b = g
      · subst e
        exact ⟨_, q2'.put _ _, by rw [Array.size_setIfInBounds]; exact q3⟩
      · exact ⟨cs', q2'.far e v, q3⟩
    · by_cases e : b = g ∧ i = j
      · obtain ⟨rfl, rfl⟩ := e
        rw [hg] at hb'
        cases hb'
        rw [hX] at hY
        cases hY
        obtain ⟨A0, cap0, c0, c1, c2, c3, e1, e2, e3, e4⟩ := k4 i X hX
        have mv : ∀ o u, o ≠ 3 → w.cell? ⟨b, i * 4 + o, .none⟩ = some u → (w'.setCell ⟨b, i * 4 + 3, .none⟩ v).cell? ⟨b, i * 4 + o, .none⟩ = some u := fun o u ho hc => by
          rw [hcell b (i * 4 + o) (fun _ => by omega)]
          exact (hb.cell (p := ⟨b, i * 4 + o, .none⟩) hgw).trans hc
        refine ⟨A, cap, mv 0 _ (by omega) c0, mv 1 _ (by omega) c1, mv 2 _ (by omega) c2, by rw [← ev]; exact hown, hv1, hv2, fun q => absurd ⟨rfl, rfl⟩ q.2, fun _ => hv3⟩
      · obtain ⟨A0, cap0, c0, c1, c2, c3, e1, e2, e3, e4⟩ := q4 i Y hY
        have hib : i < l'.length := (take_at hY).2
        have mv : ∀ o u, o < 4 → w.cell? ⟨b, i * 4 + o, .none⟩ = some u → (w'.setCell ⟨g, j * 4 + 3, .none⟩ v).cell? ⟨b, i * 4 + o, .none⟩ = some u := fun o u ho hc => by
          rw [hcell b (i * 4 + o) (fun eb eo => e ⟨eb, by omega⟩)]
          exact (hb.cell (p := ⟨b, i * 4 + o, .none⟩) q2.lt).trans hc
        have hbl : ¬ w.heap.size ≤ b := by have := q2.lt; omega
        refine ⟨A0, cap0, mv 0 _ (by omega) c0, mv 1 _ (by omega) c1, mv 2 _ (by omega) c2, mv 3 _ (by omega) c3, e1, e2, fun q => (e3 (q.1.resolve_left hbl)).keep (hBB.mono hn), fun q => ?_⟩
        refine (e4 fun p => q ⟨.inr p, e⟩).imp id fun ⟨g', e', m⟩ => ⟨g', e', hM _ _ m⟩
  by_cases hne : X.l = []
  · have hv : ∃ A cap, v = .slice A X.l.length cap ∧ X.l.length ≤ cap ∧ (A = .none → cap = 0) := by
      obtain ⟨cs0, o, _⟩ := ho
      obtain ⟨A, cap, e1, e2, _, e4, _⟩ := oc_form o
      exact ⟨A, cap, e1, e2, e4⟩
    obtain ⟨A, cap, ev, hv1, hv2⟩ := hv
    exact ⟨M, fun _ _ h => h, fun _ _ h => .inl h, old M (fun _ _ h => h) ⟨A, cap, ev, hv1, hv2, .inl hne⟩, hBB, A, cap, ev, hv1, .inl ⟨hne, fun _ _ h => h⟩⟩
  · obtain ⟨g', cap', ev, f1, f2, f3, ⟨cs', f4, f5⟩, f6⟩ := clone_at ho hne
    have hgg : g' ≠ g := by omega
    have hM0 : M g' = .none := by
      cases hq : M g'
      · rfl
      · obtain ⟨_, ⟨_, q, _⟩, _⟩ := h _ _ hq
        have := q.lt
        omega
    have hMM : ∀ b l', M b = some l' → (fun b => if b = g' then some X.l else M b) b = some l' := fun b l' hb' => by
      have hbn : b ≠ g' := fun e => by rw [e, hM0] at hb'; cases hb'
      simp [hbn, hb']
    refine ⟨fun b => if b = g' then some X.l else M b, hMM, fun b l' hb' => ?_, fun b l' hb' => ?_, hBB, some ⟨g', 0, .none⟩, cap', ev, f1, .inr ⟨hne, g', rfl, by simp, f2, f3, fun b l' hb' hbs => ?_⟩⟩
    · by_cases e : b = g'
      · right; omega
      · left; simpa [e] using hb'
    · by_cases e : b = g'
      · subst e
        simp only [if_true] at hb'
        cases hb'
        refine ⟨by omega, ⟨cs', f4.far hgg v, f5⟩, fun i Y hY => ?_⟩
        obtain ⟨A0, cap0, c0, c1, c2, c3, e1, e2, e3, _⟩ := f6 (fun _ => .none) i Y hY
        refine ⟨A0, cap0, (hcell _ _ fun e => absurd e hgg).trans c0, (hcell _ _ fun e => absurd e hgg).trans c1, (hcell _ _ fun e => absurd e hgg).trans c2, (hcell _ _ fun e => absurd e hgg).trans c3, e1, e2, fun _ => (e3 trivial).keep ?_, fun q => absurd ⟨.inl f2, fun e => absurd e.1 hgg⟩ q⟩
        exact (Below.refl n w').setCell (p := ⟨g, j * 4 + 3, .none⟩) (by show n ≤ g; omega) v
      · exact old _ hMM ⟨_, cap', ev, f1, (fun h => by cases h), .inr ⟨g', rfl, by simp⟩⟩ b l' (by simpa [e] using hb')
    · by_cases e : b = g'
      · exact e
      · have hb2 : M b = some l' := by simpa [e] using hb'
        obtain ⟨_, ⟨_, q, _⟩, _⟩ := h _ _ hb2
        have := q.lt
        omega
end
end Go.Proofs.Ytmihoeholcaokaa
