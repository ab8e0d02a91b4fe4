/- Package item: Same; a list's clone. -/
import Derived.Test.YtgbbgdjdomkohaaGreatKAQ
import Derived.Lib.SliceRun
namespace Go.Proofs.YtgbbgdjdomkohaaGreat
open Go.RowKit

theorem item_Same (x y : It) (A1 A2 : Option Addr) (c1 c2 n : Nat) (w : World) (hc : x.count ≤ 1099511627775) (hn : n ≤ w.heap.size) (h1 : AtB w n x A1 c1) (h2 : AtB w n y A2 c2) :
    Calls Tryz.prog 42 #[vI x A1 c1, vI y A2 c2] w fun e w' => e = .returned (.bool (sameB x y)) ∧ Below w.heap.size w w' := by
  obtain ⟨w1, hw1, b1, b2, S⟩ := iblk2 w 31 #[.int .i64 x.k, .int .u64 x.n, .string x.s, .slice A1 x.l.length c1] #[.int .i64 y.k, .int .u64 y.n, .string y.s, .slice A2 y.l.length c2]
  obtain ⟨p0, p1, p2, p3, -⟩ := iblk b1
  obtain ⟨q0, q1, q2, q3, -⟩ := iblk b2
  have C := item_compare x y A1 A2 c1 c2 n w1 hc (Nat.le_trans hn S.size) (h1.keep (S.mono hn)) (h2.keep (S.mono hn))
  have HS := Lib.hid S
  rw [sameB_itC]
  clear h1 h2 hc hn S b1 b2
  obtain ⟨z, hz⟩ : ∃ z, itC x y = z := ⟨_, rfl⟩
  rw [hz] at C ⊢
  clear hz
  simp only [vI] at C ⊢
  have HC := Lib.hid C
  clear C
  go_enter Tryz.func42, Tryz.ntmps42
  go_wp2_with (go_at_call 56; refine HC.out.mono ?_; rintro e w2 ⟨rfl, hb2⟩; have HB2 := Lib.hid (HS.out.trans (hb2.mono HS.out.size)); clear hb2)
  go_ret
  exact ⟨by by_cases h : z = 0 <;> simp [h], HB2.out⟩

/-- The cells of a list in memory. -/
theorem lay_of : ∀ {l : List It} {w : World} {n : Nat} {a : Addr}, AtL w (· < n) l (some a) → ∃ cs, Lay w n l cs ∧ ∀ j u, cs[j]? = some u → w.cell? (a.add j) = some u
  | [], w, n, a, _ => ⟨[], rfl, fun j u h => by cases h⟩
  | t :: r, w, n, a, h => by
    obtain ⟨b, o, e, hb, hlt, h1, h2⟩ := h.cons
    injection e with e
    subst e
    obtain ⟨A, cap, c0, c1, c2, c3, g1, g2, g3⟩ := h1.parts
    obtain ⟨cs, hl, hc⟩ := lay_of h2
    refine ⟨ic t A cap ++ cs, ⟨A, cap, cs, rfl, ⟨g1, g2, g3⟩, hl⟩, fun j u hj => ?_⟩
    rw [Addr.add_mid]
    rcases (by omega : j = 0 ∨ j = 1 ∨ j = 2 ∨ j = 3 ∨ 4 ≤ j) with rfl | rfl | rfl | rfl | h4
    · cases hj; exact c0
    · cases hj; exact c1
    · cases hj; exact c2
    · cases hj; exact c3
    · have hj' : cs[j - 4]? = some u := by
        rw [List.getElem?_append_right (by simpa [ic] using h4)] at hj
        simpa [ic] using hj
      have := hc _ _ hj'
      rw [Addr.add_mid] at this
      rwa [show o + 4 + (j - 4) = o + j by omega] at this

set_option maxRecDepth 100000 in
/-- A list's clone. -/
theorem items_clone (l : List It) (A : Option Addr) (cap n : Nat) (w : World) (hl : l.length ≤ 1099511627775) (hn : n ≤ w.heap.size) (h : RL w n l A cap) :
    Calls Tryz.prog 39 #[.slice A l.length cap] w fun e w' => ∃ v, e = .returned v ∧ OwnI w' n w.heap.size v l ∧ Below w.heap.size w w' := by
  cases A with
  | none =>
    have h0 := h.nil rfl
    have hl0 : l.length = 0 := by have := h.le; omega
    have he : l = [] := List.eq_nil_of_length_eq_zero hl0
    subst he
    subst h0
    clear hl h hn hl0
    have hnl := fun (W : World) (A : Option Addr) (m c : Nat) => Lib.run_eql_slice_nil (P := Tryz.prog) W 29 31 A m c 0 0 (by kernel_rfl)
    go_enter Tryz.func39, Tryz.ntmps39
    go_wp2
    refine bodyPost_ret (results_tmp rfl _ _ _) rfl ?_
    exact ⟨_, rfl, ⟨[], World.ownsRow_nil _ _ _ _, rfl⟩, Below.refl _ _⟩
  | some a =>
    have S := below_alloc w (.cells #[] 31)
    obtain ⟨cs, hy, hc⟩ := lay_of (h.keep (S.mono hn)).at_
    have o1 : (w.alloc (.cells #[] 31)).ownsRow w.heap.size 31 4 (.slice (some ⟨w.heap.size, 0, none⟩) 0 0) 0 [] := oc_new w w.heap.size 31 4 0 #[] rfl (Nat.le_refl _) (by unfold maxLen; omega)
    obtain ⟨v', w', r1, r2, r3, _, _⟩ := oc_append (P := Tryz.prog) (t := 29) (ty := 29) (c := cap) (m := l.length) (news := cs) (by kernel_rfl) infoItem rfl (by decide) (by decide) o1 hy.length hc hy.one_cell (by omega) (by simp)
    have HR := Lib.hid r1
    have HP : RowKit.Hid (OwnI w' n w.heap.size v' l) := Lib.hid ⟨cs, by simpa using r2, hy.keep (r3.mono hn)⟩
    have HB := Lib.hid (S.trans r3)
    clear r1 r2 r3 o1 hy hc S h hn hl
    have hnl := fun (W : World) (A : Option Addr) (m c : Nat) => Lib.run_eql_slice_nil (P := Tryz.prog) W 29 31 A m c 0 0 (by kernel_rfl)
    go_enter Tryz.func39, Tryz.ntmps39
    go_wp2_with ((with_reducible refine is_append 29 rfl ?_); (with_reducible refine wpList_append_run rfl rfl HR.out ?_ ?_ ?_); (· rfl); (· rfl))
    refine bodyPost_ret (results_tmp rfl _ _ _) rfl ?_
    exact ⟨_, rfl, HP.out, HB.out⟩
end Go.Proofs.YtgbbgdjdomkohaaGreat

/- A copy that is under way: new lists, whose items' lists are new or still the old ones. -/
namespace Go.Proofs.YtgbbgdjdomkohaaGreat
open Go.RowKit

/-- Item number i of the new list in block g; p: its list is still the old one. -/
def ItemAt (w : World) (n : Nat) (M : Nat → Option (List It)) (p : Prop) (g i : Nat) (X : It) : Prop :=
  ∃ A cap, w.cell? ⟨g, i * 4, none⟩ = some (.int .i64 X.k) ∧ w.cell? ⟨g, i * 4 + 1, none⟩ = some (.int .u64 X.n) ∧ w.cell? ⟨g, i * 4 + 2, none⟩ = some (.string X.s) ∧ w.cell? ⟨g, i * 4 + 3, none⟩ = some (.slice A X.l.length cap) ∧
    X.l.length ≤ cap ∧ (A = none → cap = 0) ∧ (p → RL w n X.l A cap) ∧ (¬ p → X.l = [] ∨ ∃ g', A = some ⟨g', 0, none⟩ ∧ M g' = some X.l)
/-- M tells which new lists there are, P which items have still their old lists. -/
def Inv (w : World) (n B : Nat) (M : Nat → Option (List It)) (P : Nat → Nat → Prop) : Prop :=
  ∀ g l, M g = some l → B ≤ g ∧ (∃ cs, Blk w g 31 cs ∧ l.length * 4 ≤ cs.size) ∧ ∀ i X, l[i]? = some X → ItemAt w n M (P g i) g i X
section
variable {w w' : World} {n B g i j cap : Nat} {M M' : Nat → Option (List It)} {P Q : Nat → Nat → Prop} {p : Prop} {X : It} {l : List It} {v : Value}
theorem ItemAt.moved (h : ItemAt w n M p g i X) (hb : ∀ o, o < 4 → w'.cell? ⟨g, i * 4 + o, none⟩ = w.cell? ⟨g, i * 4 + o, none⟩) (hn : Below n w w') (hM : ∀ b l, M b = some l → M' b = some l) : ItemAt w' n M' p g i X := by
  obtain ⟨A, cap, c0, c1, c2, c3, h1, h2, h3, h4⟩ := h
  exact ⟨A, cap, (hb 0 (by omega)).trans c0, (hb 1 (by omega)).trans c1, (hb 2 (by omega)).trans c2, (hb 3 (by omega)).trans c3, h1, h2, fun q => (h3 q).keep hn,
    fun q => (h4 q).imp id fun ⟨g', e, m⟩ => ⟨g', e, hM _ _ m⟩⟩
theorem Inv.congr (h : Inv w n B M P) (hq : ∀ g l i, M g = some l → i < l.length → (P g i ↔ Q g i)) : Inv w n B M Q := fun g l hg => by
  obtain ⟨h1, h2, h3⟩ := h g l hg
  refine ⟨h1, h2, fun i X hX => ?_⟩
  obtain ⟨A, cap, c0, c1, c2, c3, e1, e2, e3, e4⟩ := h3 i X hX
  have hi := (take_at hX).2
  have e := hq g l i hg hi
  exact ⟨A, cap, c0, c1, c2, c3, e1, e2, fun q => e3 (e.2 q), fun q => e4 fun k => q (e.1 k)⟩
/-- Carried to a world in which those blocks lie as they lay. -/
theorem Inv.moved (h : Inv w n B M P) (hb : ∀ g l, M g = some l → w'.heap[g]? = w.heap[g]?) (hn : Below n w w') : Inv w' n B M P := fun g l hg => by
  obtain ⟨h1, ⟨cs, h2, h2'⟩, h3⟩ := h g l hg
  have e := hb g l hg
  refine ⟨h1, ⟨cs, (e.trans h2), h2'⟩, fun i X hX => (h3 i X hX).moved (fun o _ => ?_) hn fun _ _ h => h⟩
  exact World.cell?_of_block (w := w) (a := ⟨g, i * 4 + o, none⟩) e
theorem Inv.on (h : Inv w n B M P) (hb : Below w.heap.size w w') (hn : n ≤ w.heap.size) : Inv w' n B M P := h.moved (fun g l hg => by
  obtain ⟨_, ⟨cs, h2, _⟩, _⟩ := h g l hg
  exact hb.block g h2.lt) (hb.mono hn)
/-- Another slice, of another type, is appended to. -/
theorem Inv.grown (h : Inv w n B M P) {e : TypeId} {s m : Nat} {cs : List Value} {B' : Nat} (he : e ≠ 31) (ho : w.ownsRow B' e s v m cs) (hg : w.grownBy w' v.ownBlock) (hn : Below n w w') : Inv w' n B M P := h.moved (fun g l hl => by
  obtain ⟨_, ⟨cs', h2, _⟩, _⟩ := h g l hl
  refine hg.block g h2.lt fun e' => ?_
  rcases ho.2 with ⟨rfl, _⟩ | ⟨g', cap, cur, rfl, _, hh, _⟩
  · simp [Value.ownBlock] at e'
  · simp only [Value.ownBlock] at e'
    injection e' with e'
    subst e'
    have h2' : w.heap[g]? = _ := h2
    rw [hh] at h2'
    injection h2' with h2'
    injection h2' with _ h3 _
    exact he h3) hn
theorem Inv.start0 (w : World) (n B : Nat) (P : Nat → Nat → Prop) : Inv w n B (fun _ => .none) P := fun _ _ h => by cases h
/-- A list's clone, as item of a copy. -/
theorem clone_at (h : OwnI w n B v l) (hne : l ≠ []) : ∃ g cap, v = .slice (some ⟨g, 0, none⟩) l.length cap ∧ l.length ≤ cap ∧ B ≤ g ∧ g < w.heap.size ∧ (∃ cs, Blk w g 31 cs ∧ l.length * 4 ≤ cs.size) ∧ ∀ M i X, l[i]? = some X → ItemAt w n M True g i X := by
  have hl : 0 < l.length := List.length_pos_iff.2 hne
  obtain ⟨g, cap, rfl, h1, h2, h3, h4⟩ := h.form hl
  refine ⟨g, cap, rfl, h1, h3, h4, ?_, fun M i X hX => ?_⟩
  · obtain ⟨cs, o, _⟩ := h
    obtain ⟨cur, hb, _, _, _, hs, _⟩ := oc_blk o
    exact ⟨cur, hb, by rw [hs]; exact Nat.mul_le_mul_right 4 h1⟩
  · obtain ⟨_, hi⟩ := take_at hX
    obtain ⟨X', A', cap', hX', _, c0, c1, c2, c3, h⟩ := h.item hi
    rw [hX] at hX'
    cases hX'
    exact ⟨A', cap', c0, c1, c2, c3, h.le, h.nil, fun _ => h.rl, fun q => absurd trivial q⟩
theorem Inv.one (h : OwnI w n B v l) (hne : l ≠ []) : ∃ g cap, v = .slice (some ⟨g, 0, none⟩) l.length cap ∧ l.length ≤ cap ∧ B ≤ g ∧ Inv w n B (fun b => if b = g then some l else .none) fun b _ => b = g := by
  obtain ⟨g, cap, e, h1, h2, h3, h4, h5⟩ := clone_at h hne
  refine ⟨g, cap, e, h1, h2, fun b l' hb => ?_⟩
  by_cases e' : b = g
  · subst e'
    simp only [if_true] at hb
    cases hb
    refine ⟨h2, h4, fun i X hX => ?_⟩
    have := h5 (fun b' => if b' = b then some l else .none) i X hX
    simpa using this
  · simp [e'] at hb
/-- An item of the copy gets its own list. -/
theorem Inv.step (h : Inv w n B M P) (hg : M g = some l) (hX : l[j]? = some X) (hn : n ≤ B) (hB : B ≤ w.heap.size) (ho : OwnI w' n w.heap.size v X.l) (hb : Below w.heap.size w w') :
    ∃ M', (∀ b l, M b = some l → M' b = some l) ∧ (∀ b l, M' b = some l → M b = some l ∨ w.heap.size ≤ b) ∧ Inv (w'.setCell ⟨g, j * 4 + 3, none⟩ v) n B M' (fun b i => (w.heap.size ≤ b ∨ P b i) ∧ ¬ (b = g ∧ i = j)) ∧
      Below B w (w'.setCell ⟨g, j * 4 + 3, none⟩ v) ∧ (∃ A cap, v = .slice A X.l.length cap ∧ X.l.length ≤ cap ∧ ((X.l = [] ∧ ∀ b l, M' b = some l → M b = some l) ∨ (X.l ≠ [] ∧ ∃ g', A = some ⟨g', 0, none⟩ ∧ M' g' = some X.l ∧ w.heap.size ≤ g' ∧ g' < w'.heap.size ∧ ∀ b l, M' b = some l → w.heap.size ≤ b → b = g'))) := by
  obtain ⟨k1, ⟨cs, k2, k3⟩, k4⟩ := h g l hg
  have hjl := (take_at hX).2
  have k2' := k2.on hb
  have hgw : g < w.heap.size := k2.lt
  have hBB : Below B w (w'.setCell ⟨g, j * 4 + 3, none⟩ v) := (hb.mono hB).trans ((Below.refl B w').setCell (p := ⟨g, j * 4 + 3, none⟩) k1 v)
  have hcell : ∀ b o, (b = g → o ≠ j * 4 + 3) → (w'.setCell ⟨g, j * 4 + 3, none⟩ v).cell? ⟨b, o, none⟩ = w'.cell? ⟨b, o, none⟩ := fun b o hne => by
    by_cases e : b = g
    · subst e
      rw [(k2'.put (j * 4 + 3) v).cell, k2'.cell]
      exact Array.getElem?_setIfInBounds_ne (fun e => hne rfl e.symm)
    · exact World.cell?_of_block (w := w') (a := ⟨b, o, none⟩) (Below.heap_setCell w' ⟨g, j * 4 + 3, none⟩ v b e)
  have hown : (w'.setCell ⟨g, j * 4 + 3, none⟩ v).cell? ⟨g, j * 4 + 3, none⟩ = some v := by
    rw [(k2'.put (j * 4 + 3) v).cell, Array.getElem?_setIfInBounds_self_of_lt]
    omega
  -- the items that were there
  have old : ∀ (M' : Nat → Option (List It)), (∀ b l, M b = some l → M' b = some l) → (∃ A cap, v = .slice A X.l.length cap ∧ X.l.length ≤ cap ∧ (A = .none → cap = 0) ∧ (X.l = [] ∨ ∃ g', A = some ⟨g', 0, .none⟩ ∧ M' g' = some X.l)) →
      ∀ b l', M b = some l' → B ≤ b ∧ (∃ cs, Blk (w'.setCell ⟨g, j * 4 + 3, .none⟩ v) b 31 cs ∧ l'.length * 4 ≤ cs.size) ∧ ∀ i Y, l'[i]? = some Y → ItemAt (w'.setCell ⟨g, j * 4 + 3, .none⟩ v) n M' ((w.heap.size ≤ b ∨ P b i) ∧ ¬ (b = g ∧ i = j)) b i Y := by
    intro M' hM ⟨A, cap, ev, hv1, hv2, hv3⟩ b l' hb'
    obtain ⟨q1, ⟨cs', q2, q3⟩, q4⟩ := h b l' hb'
    have q2' := q2.on hb
    refine ⟨q1, ?_, fun i Y hY => ?_⟩
    · by_cases e : b = g
      · subst e
        exact ⟨_, q2'.put _ _, by rw [Array.size_setIfInBounds]; exact q3⟩
      · exact ⟨cs', q2'.far e v, q3⟩
    · by_cases e : b = g ∧ i = j
      · obtain ⟨rfl, rfl⟩ := e
        rw [hg] at hb'
        cases hb'
        rw [hX] at hY
        cases hY
        obtain ⟨A0, cap0, c0, c1, c2, c3, e1, e2, e3, e4⟩ := k4 i X hX
        have mv : ∀ o u, o ≠ 3 → w.cell? ⟨b, i * 4 + o, .none⟩ = some u → (w'.setCell ⟨b, i * 4 + 3, .none⟩ v).cell? ⟨b, i * 4 + o, .none⟩ = some u := fun o u ho hc => by
          rw [hcell b (i * 4 + o) (fun _ => by omega)]
          exact (hb.cell (p := ⟨b, i * 4 + o, .none⟩) hgw).trans hc
        refine ⟨A, cap, mv 0 _ (by omega) c0, mv 1 _ (by omega) c1, mv 2 _ (by omega) c2, by rw [← ev]; exact hown, hv1, hv2, fun q => absurd ⟨rfl, rfl⟩ q.2, fun _ => hv3⟩
      · obtain ⟨A0, cap0, c0, c1, c2, c3, e1, e2, e3, e4⟩ := q4 i Y hY
        have hib : i < l'.length := (take_at hY).2
        have mv : ∀ o u, o < 4 → w.cell? ⟨b, i * 4 + o, .none⟩ = some u → (w'.setCell ⟨g, j * 4 + 3, .none⟩ v).cell? ⟨b, i * 4 + o, .none⟩ = some u := fun o u ho hc => by
          rw [hcell b (i * 4 + o) (fun eb eo => e ⟨eb, by omega⟩)]
          exact (hb.cell (p := ⟨b, i * 4 + o, .none⟩) q2.lt).trans hc
        have hbl : ¬ w.heap.size ≤ b := by have := q2.lt; omega
        refine ⟨A0, cap0, mv 0 _ (by omega) c0, mv 1 _ (by omega) c1, mv 2 _ (by omega) c2, mv 3 _ (by omega) c3, e1, e2, fun q => (e3 (q.1.resolve_left hbl)).keep (hBB.mono hn), fun q => ?_⟩
        refine (e4 fun p => q ⟨.inr p, e⟩).imp id fun ⟨g', e', m⟩ => ⟨g', e', hM _ _ m⟩
  by_cases hne : X.l = []
  · have hv : ∃ A cap, v = .slice A X.l.length cap ∧ X.l.length ≤ cap ∧ (A = .none → cap = 0) := by
      obtain ⟨cs0, o, _⟩ := ho
      obtain ⟨A, cap, e1, e2, _, e4, _⟩ := oc_form o
      exact ⟨A, cap, e1, e2, e4⟩
    obtain ⟨A, cap, ev, hv1, hv2⟩ := hv
    exact ⟨M, fun _ _ h => h, fun _ _ h => .inl h, old M (fun _ _ h => h) ⟨A, cap, ev, hv1, hv2, .inl hne⟩, hBB, A, cap, ev, hv1, .inl ⟨hne, fun _ _ h => h⟩⟩
  · obtain ⟨g', cap', ev, f1, f2, f3, ⟨cs', f4, f5⟩, f6⟩ := clone_at ho hne
    have hgg : g' ≠ g := by omega
    have hM0 : M g' = .none := by
      cases hq : M g'
      · rfl
      · obtain ⟨_, ⟨_, q, _⟩, _⟩ := h _ _ hq
        have := q.lt
        omega
    have hMM : ∀ b l', M b = some l' → (fun b => if b = g' then some X.l else M b) b = some l' := fun b l' hb' => by
      have hbn : b ≠ g' := fun e => by rw [e, hM0] at hb'; cases hb'
      simp [hbn, hb']
    refine ⟨fun b => if b = g' then some X.l else M b, hMM, fun b l' hb' => ?_, fun b l' hb' => ?_, hBB, some ⟨g', 0, .none⟩, cap', ev, f1, .inr ⟨hne, g', rfl, by simp, f2, f3, fun b l' hb' hbs => ?_⟩⟩
    · by_cases e : b = g'
      · right; omega
      · left; simpa [e] using hb'
    · by_cases e : b = g'
      · subst e
        simp only [if_true] at hb'
        cases hb'
        refine ⟨by omega, ⟨cs', f4.far hgg v, f5⟩, fun i Y hY => ?_⟩
        obtain ⟨A0, cap0, c0, c1, c2, c3, e1, e2, e3, _⟩ := f6 (fun _ => .none) i Y hY
        refine ⟨A0, cap0, (hcell _ _ fun e => absurd e hgg).trans c0, (hcell _ _ fun e => absurd e hgg).trans c1, (hcell _ _ fun e => absurd e hgg).trans c2, (hcell _ _ fun e => absurd e hgg).trans c3, e1, e2, fun _ => (e3 trivial).keep ?_, fun q => absurd ⟨.inl f2, fun e => absurd e.1 hgg⟩ q⟩
        exact (Below.refl n w').setCell (p := ⟨g, j * 4 + 3, .none⟩) (by show n ≤ g; omega) v
      · exact old _ hMM ⟨_, cap', ev, f1, (fun h => by cases h), .inr ⟨g', rfl, by simp⟩⟩ b l' (by simpa [e] using hb')
    · by_cases e : b = g'
      · exact e
      · have hb2 : M b = some l' := by simpa [e] using hb'
        obtain ⟨_, ⟨_, q, _⟩, _⟩ := h _ _ hb2
        have := q.lt
        omega
end
end Go.Proofs.YtgbbgdjdomkohaaGreat

/- One round of a copy. -/
namespace Go.Proofs.YtgbbgdjdomkohaaGreat
open Go.RowKit

/-- A new list on the stack. -/
def SE : Nat × List It → List Value → Prop := fun r c => ∃ A cap, c = [.slice A r.2.length cap] ∧ r.2.length ≤ cap ∧ (r.2 = [] ∨ A = some ⟨r.1, 0, none⟩)
theorem SE.len : ∀ x c, SE x c → c.length = 1 := fun _ _ ⟨_, _, e, _, _⟩ => by rw [e]; rfl
theorem infoList : (Tryz.prog.info? 29).map (fun i => (i.zero, i.size, i.bytes)) = some (some (.slice none 0 0), 1, 24) := by kernel_rfl
theorem sizeList : (Tryz.prog.info? 29).map (·.size) = some 1 := by kernel_rfl
/-- A copy's state. -/
structure CS (w wr : World) (n B : Nat) (M : Nat → Option (List It)) (v : Value) (T : List (Nat × List It)) (P : Nat → Nat → Prop) (root : List It) (A : Option Addr) : Prop where
  own : OwnG SE wr B 29 1 v T
  inv : Inv wr n B M P
  nod : (T.map (·.1)).Nodup
  tc : ∀ r ∈ T, (r.2 = [] ∧ r.1 < B) ∨ M r.1 = some r.2
  root : root = [] ∨ ∃ g, A = some ⟨g, 0, none⟩ ∧ M g = some root
  bel : Below B w wr
section
variable {w wr w5 w' : World} {n B g j : Nat} {M : Nat → Option (List It)} {v u : Value} {T : List (Nat × List It)} {P Q : Nat → Nat → Prop} {root l : List It} {A : Option Addr} {X : It}
theorem blk_ne {e e' : TypeId} {s m : Nat} {c : Array Value} {cs : List Value} (h : w.ownsRow B e s v m cs) (hb : Blk w g e' c) (he : e ≠ e') : v.ownBlock = none ∨ v.ownBlock ≠ some g := by
  rcases h.2 with ⟨rfl, _⟩ | ⟨g', cap, cur, rfl, _, hh, _⟩
  · left; rfl
  · right
    intro e1
    have e2 : g' = g := by simpa [Value.ownBlock] using e1
    subst e2
    have hb' : w.heap[g']? = _ := hb
    rw [hh] at hb'
    injection hb' with hb'
    injection hb' with _ hb' _
    exact he hb'
theorem grown_set (w : World) (g o : Nat) (u : Value) : w.grownBy (w.setCell ⟨g, o, none⟩ u) (some g) := (Only.refl g w).put o u
theorem CS.congr (h : CS w wr n B M v T P root A) (hq : ∀ g l i, M g = some l → i < l.length → (P g i ↔ Q g i)) : CS w wr n B M v T Q root A := ⟨h.own, h.inv.congr hq, h.nod, h.tc, h.root, h.bel⟩
theorem CS.round (h : CS w wr n B M v T (fun b i => b ∈ T.map (·.1) ∨ (b = g ∧ j ≤ i)) root A) (hg : M g = some l) (hX : l[j]? = some X) (hT : g ∉ T.map (·.1)) (ho : OwnI w5 n wr.heap.size u X.l) (hb : Below wr.heap.size wr w5) (hn : n ≤ B) (hB : B ≤ wr.heap.size)
    (hroom : T.length + 1 ≤ 1099511627776) :
    ∃ A' cap' M' w6, u = .slice A' X.l.length cap' ∧ w5.setCell ⟨g, j * 4 + 3, none⟩ u = w6 ∧ w6.cell? ⟨g, j * 4 + 3, none⟩ = some u ∧ M' g = some l ∧
      (X.l = [] → CS w w6 n B M' v T (fun b i => b ∈ T.map (·.1) ∨ (b = g ∧ j + 1 ≤ i)) root A) ∧
      (X.l ≠ [] → ∃ w7 v' w8 g', w6.alloc (.cells #[u] 29) = w7 ∧ (Builtin.append_ #[89, 89] 89 #[v, .slice (some ⟨w6.heap.size, 0, none⟩) 1 1]).run Tryz.prog w7 = .ok v' w8 ∧
        CS w w8 n B M' v' (T ++ [(g', X.l)]) (fun b i => b ∈ (T ++ [(g', X.l)]).map (·.1) ∨ (b = g ∧ j + 1 ≤ i)) root A ∧ g ∉ (T ++ [(g', X.l)]).map (·.1)) := by
  obtain ⟨M', m1, m2, i6, b6, A', cap', ev, hv1, hv2⟩ := h.inv.step hg hX hn hB ho hb
  have hbg : ∃ cs, Blk wr g 31 cs ∧ l.length * 4 ≤ cs.size := (h.inv g l hg).2.1
  obtain ⟨cs, hk, hks⟩ := hbg
  have hgw : g < wr.heap.size := hk.lt
  have hk5 := hk.on hb
  have hjl := (take_at hX).2
  have hcell : (w5.setCell ⟨g, j * 4 + 3, none⟩ u).cell? ⟨g, j * 4 + 3, none⟩ = some u := by
    rw [(hk5.put (j * 4 + 3) u).cell, Array.getElem?_setIfInBounds_self_of_lt]
    omega
  have hTw : ∀ r ∈ T, r.1 < wr.heap.size := fun r hr => by
    rcases h.tc r hr with ⟨_, h1⟩ | h1
    · omega
    · obtain ⟨_, ⟨_, h2, _⟩, _⟩ := h.inv _ _ h1
      exact h2.lt
  have hmem : ∀ b, b ∈ T.map (·.1) → b < wr.heap.size := fun b hb' => by
    obtain ⟨r, hr, rfl⟩ := List.mem_map.1 hb'
    exact hTw r hr
  have own5 : OwnG SE w5 B 29 1 v T := h.own.on hb
  have own6 : OwnG SE (w5.setCell ⟨g, j * 4 + 3, none⟩ u) B 29 1 v T := own5.kept (grown_set w5 g _ u) (by
    obtain ⟨c, o, _⟩ := own5
    exact blk_ne o hk5 (by decide))
  have htc : ∀ r ∈ T, (r.2 = [] ∧ r.1 < B) ∨ M' r.1 = some r.2 := fun r hr => (h.tc r hr).imp id (m1 _ _)
  have hroot : root = [] ∨ ∃ g, A = some ⟨g, 0, none⟩ ∧ M' g = some root := h.root.imp id fun ⟨g, e, m⟩ => ⟨g, e, m1 _ _ m⟩
  have hbel : Below B w (w5.setCell ⟨g, j * 4 + 3, none⟩ u) := h.bel.trans b6
  refine ⟨A', cap', M', _, ev, rfl, hcell, m1 _ _ hg, fun hx => ?_, fun hx => ?_⟩
  · refine ⟨own6, i6.congr fun b l' i hb' hi => ?_, h.nod, htc, hroot, hbel⟩
    rcases m2 b l' hb' with q | q
    · obtain ⟨_, ⟨_, q2, _⟩, _⟩ := h.inv _ _ q
      have hbl : ¬ wr.heap.size ≤ b := by have := q2.lt; omega
      constructor
      · rintro ⟨p, hne⟩
        rcases p.resolve_left hbl with p | ⟨rfl, p⟩
        · exact .inl p
        · exact .inr ⟨rfl, by have : i ≠ j := fun e => hne ⟨rfl, e⟩; omega⟩
      · rintro (p | ⟨rfl, p⟩)
        · exact ⟨.inr (.inl p), fun e => hT (e.1 ▸ p)⟩
        · exact ⟨.inr (.inr ⟨rfl, by omega⟩), fun e => by have := e.2; omega⟩
    · exfalso
      rcases hv2 with ⟨_, hv2⟩ | ⟨hv2, _⟩
      · obtain ⟨_, ⟨_, q2, _⟩, _⟩ := h.inv _ _ (hv2 _ _ hb')
        have := q2.lt
        omega
      · exact hv2 hx
  · obtain ⟨_, g', e1, e2, e3, e4, e5⟩ := hv2.resolve_left fun q => hx q.1
    have hsz : wr.heap.size ≤ w5.heap.size := hb.size
    have hg6 : (w5.setCell ⟨g, j * 4 + 3, none⟩ u).heap.size = w5.heap.size := by simp [World.setCell]
    obtain ⟨w6, hw6⟩ : ∃ w6, w5.setCell ⟨g, j * 4 + 3, none⟩ u = w6 := ⟨_, rfl⟩
    rw [hw6] at own6 i6 hbel hg6 ⊢
    have S7 := below_alloc w6 (.cells #[u] 29)
    have b7 := Blk.fresh w6 29 #[u]
    have hs7 := S7.size
    generalize hw7 : w6.alloc (.cells #[u] 29) = w7 at *
    have own7 := own6.on S7
    have i7 := i6.on S7 (by omega)
    obtain ⟨v', w8, hr, ho8, hb8, hg8, _⟩ := own7.push (P := Tryz.prog) (t := 89) (ty := 89) (bytes := 24) (x := (g', X.l)) (c := [u]) (a := ⟨w6.heap.size, 0, none⟩) (k := 1) (by kernel_rfl) infoList rfl (by decide) (by decide)
      ⟨A', cap', by rw [ev], hv1, .inr e1⟩ rfl
      (fun j u hj => by
        rw [Addr.add_mid, Nat.zero_add, b7.cell]
        simpa using hj)
      (fun y hy => by
        simp only [List.mem_cons, List.not_mem_nil, or_false] at hy
        rw [hy, ev]; rfl) hroom (by omega)
    obtain ⟨c7, o7, l7⟩ := own7
    have i8 := i7.grown (by decide) o7 hg8 (hb8.mono hn)
    refine ⟨w7, v', w8, g', rfl, hr, ⟨ho8, i8.congr fun b l' i hb' hi => ?_, ?_, ?_, hroot, hbel.trans ((S7.mono (by omega)).trans hb8)⟩, ?_⟩
    · simp only [List.map_append, List.map_cons, List.map_nil, List.mem_append, List.mem_singleton]
      rcases m2 b l' hb' with q | q
      · obtain ⟨_, ⟨_, q2, _⟩, _⟩ := h.inv _ _ q
        have hbl : ¬ wr.heap.size ≤ b := by have := q2.lt; omega
        constructor
        · rintro ⟨p, hne⟩
          rcases p.resolve_left hbl with p | ⟨rfl, p⟩
          · exact .inl (.inl p)
          · exact .inr ⟨rfl, by have : i ≠ j := fun e => hne ⟨rfl, e⟩; omega⟩
        · rintro ((p | rfl) | ⟨rfl, p⟩)
          · exact ⟨.inr (.inl p), fun e => hT (e.1 ▸ p)⟩
          · exact absurd e3 hbl
          · exact ⟨.inr (.inr ⟨rfl, by omega⟩), fun e => by have := e.2; omega⟩
      · have hbg' := e5 b l' hb' q
        constructor
        · rintro _
          exact .inl (.inr hbg')
        · rintro _
          exact ⟨.inl q, fun e => by have := e.1; omega⟩
    · rw [List.map_append, List.nodup_append]
      refine ⟨h.nod, by simp, fun a ha b hb' => ?_⟩
      simp only [List.map_cons, List.map_nil, List.mem_singleton] at hb'
      have := hmem a ha
      omega
    · intro r hr
      rcases List.mem_append.1 hr with hr | hr
      · exact htc r hr
      · rw [List.mem_singleton] at hr
        subst hr
        exact .inr e2
    · simp only [List.map_append, List.map_cons, List.map_nil, List.mem_append, List.mem_singleton]
      rintro (p | p)
      · exact hT p
      · omega
/-- What Copy has made. -/
def Cpd (w : World) (n B : Nat) (l : List It) (A : Option Addr) (cap : Nat) : Prop :=
  l.length ≤ cap ∧ (A = none → cap = 0) ∧ ∃ M, Inv w n B M (fun _ _ => False) ∧ (l = [] ∨ ∃ g, A = some ⟨g, 0, none⟩ ∧ M g = some l)
theorem Inv.at (h : Inv w n B M fun _ _ => False) : ∀ (c : Nat) (l : List It) (g : Nat), countL l ≤ c → M g = some l → AtL w (B ≤ ·) l (some ⟨g, 0, none⟩) := by
  intro c
  induction c with
  | zero =>
    intro l g hc hg
    cases l with
    | nil => exact AtL.nil _
    | cons t r => rw [countL, It.count_eq] at hc; omega
  | succ c ih =>
    intro l g hc hg
    obtain ⟨h1, ⟨cs, h2, _⟩, h3⟩ := h g l hg
    suffices H : ∀ k i, i + k = l.length → AtL w (B ≤ ·) (l.drop i) (some ⟨g, i * 4, none⟩) by simpa using H l.length 0 (by omega)
    intro k
    induction k with
    | zero => intro i hi; rw [List.drop_of_length_le (by omega)]; exact AtL.nil _
    | succ k ih2 =>
      intro i hi
      have hil : i < l.length := by omega
      rw [List.drop_eq_getElem_cons hil]
      obtain ⟨A, cap, c0, c1, c2, c3, e1, e2, _, e4⟩ := h3 i l[i] (List.getElem?_eq_getElem hil)
      have hlt : countL l[i].l ≤ c := by
        have h5 := count_le_of_mem (List.getElem_mem hil)
        rw [It.count_eq] at h5
        omega
      refine AtL.mk h1 h2.lt (At1.mk A cap c0 c1 c2 c3 e1 e2 ?_) (by have := ih2 (i + 1) (by omega); rwa [show (i + 1) * 4 = i * 4 + 4 by omega] at this)
      rcases e4 (fun h => h) with e | ⟨g', rfl, e⟩
      · rw [e]; exact AtL.nil _
      · exact ih _ _ hlt e
theorem Cpd.at {cap : Nat} (h : Cpd w n B l A cap) : AtL w (B ≤ ·) l A := by
  obtain ⟨_, _, M, h3, h4⟩ := h
  rcases h4 with rfl | ⟨g, rfl, h4⟩
  · exact AtL.nil _
  · exact h3.at _ _ _ (Nat.le_refl _) h4
end
end Go.Proofs.YtgbbgdjdomkohaaGreat

/- Package item: Copy. -/
namespace Go.Proofs.YtgbbgdjdomkohaaGreat
open Go.RowKit

theorem kids_take {l : List It} {j : Nat} {X : It} (h : l[j]? = some X) : kids (l.take (j + 1)) = kids (l.take j) ++ (if X.l.isEmpty then [] else [X.l]) := by
  rw [(take_at h).1, kids_append, kids_one]
theorem kids_length (l : List It) : (kids l).length ≤ l.length := by
  unfold kids
  rw [List.length_map]
  exact List.length_filter_le _ _
theorem stSize_len (ps : List (List It)) : ps.length ≤ stSize ps := by
  induction ps with
  | nil => simp [stSize]
  | cons p r ih => simp only [List.length_cons, stSize]; omega
theorem copy_room (T U : List (Nat × List It)) (g : Nat) (l : List It) (j : Nat) (hU : U.map (·.2) = kids (l.take j)) : (T ++ U).length + 1 ≤ stSize ((T ++ [(g, l)]).map (·.2)).reverse := by
  have h1 := stSize_len (T.map (·.2))
  have h2 := congrArg List.length hU
  have h3 := kids_length (l.take j)
  have h4 := length_le_countL l
  rw [List.length_take] at h3
  rw [List.length_map] at h1 h2
  rw [stSize_reverse, List.map_append, stSize_append, List.length_append]
  simp only [List.map_cons, List.map_nil, stSize]
  omega

/-- A copy begins. -/
theorem copy_start {w w1 w2 : World} {n b1 : Nat} {v : Value} {l : List It} {k0 n0 s0 a0 : Value} {c2 : Array Value} (hs1 : w1.heap.size = b1 + 2) (hS : Below b1 w w1) (hn : n ≤ b1) (hk1 : Blk w1 b1 31 #[k0, n0, s0, a0]) (hk2 : Blk w1 (b1 + 1) 31 c2)
    (ho : OwnI w2 n w1.heap.size v l) (hb : Below w1.heap.size w1 w2) :
    ∃ A cap M T w3 w4, v = .slice A l.length cap ∧ l.length ≤ cap ∧ (A = none → cap = 0) ∧ w2.cell? ⟨b1, 3, none⟩ = some a0 ∧ w2.frozen? ⟨b1, 3, none⟩ = false ∧ w2.setCell ⟨b1, 3, none⟩ v = w3 ∧ Blk w3 b1 31 #[k0, n0, s0, v] ∧ w3.alloc (.cells #[v] 29) = w4 ∧
      Blk w4 b1 31 #[k0, n0, s0, v] ∧ Blk w4 (b1 + 1) 31 c2 ∧ CS w4 w4 n (b1 + 2) M (.slice (some ⟨w3.heap.size, 0, none⟩) 1 1) T (fun b _ => b ∈ T.map (·.1)) l A ∧ T.map (·.2) = [l] ∧ Below b1 w w4 ∧ b1 + 2 ≤ w4.heap.size := by
  rw [hs1] at ho hb
  have hsz2 := hb.size
  have k2 : Blk w2 b1 31 #[k0, n0, s0, a0] := hk1.below hb (by omega)
  have k2' : Blk w2 (b1 + 1) 31 c2 := hk2.below hb (by omega)
  have k3 := k2.put 3 v
  have k3' := k2'.far (p := ⟨b1, 3, none⟩) (by show b1 + 1 ≠ b1; omega) v
  have o3 : OwnI (w2.setCell ⟨b1, 3, none⟩ v) n (b1 + 2) v l := by
    obtain ⟨cs, o, y⟩ := ho
    refine ⟨cs, oc_keep o fun i hi _ => ?_, y.keep ((Below.refl n w2).setCell (p := ⟨b1, 3, none⟩) hn v)⟩
    exact Below.heap_setCell w2 ⟨b1, 3, none⟩ v i (by show i ≠ b1; omega)
  have hform : ∃ A cap, v = .slice A l.length cap ∧ l.length ≤ cap ∧ (A = none → cap = 0) := by
    obtain ⟨cs0, o, _⟩ := ho
    obtain ⟨A, cap, e1, e2, _, e4, _⟩ := oc_form o
    exact ⟨A, cap, e1, e2, e4⟩
  obtain ⟨A, cap, ev, hv1, hv2⟩ := hform
  have hb3 : Below b1 w (w2.setCell ⟨b1, 3, none⟩ v) := hS.trans ((hb.mono (by omega)).trans ((Below.refl b1 w2).setCell (p := ⟨b1, 3, none⟩) (Nat.le_refl _) v))
  have hsz3 : (w2.setCell ⟨b1, 3, none⟩ v).heap.size = w2.heap.size := by simp [World.setCell]
  generalize hw3 : w2.setCell ⟨b1, 3, none⟩ v = w3 at *
  have S4 := below_alloc w3 (.cells #[v] 29)
  have hb4 := hb3.trans (S4.mono (by omega))
  have hs4 := S4.size
  have k4 := k3.on S4
  have k4' := k3'.on S4
  have se : ∀ g, (l = [] ∨ A = some ⟨g, 0, none⟩) → OwnG SE (w3.alloc (.cells #[v] 29)) (b1 + 2) 29 1 (.slice (some ⟨w3.heap.size, 0, none⟩) 1 1) [(g, l)] := fun g hg =>
    OwnG.fresh w3 (b1 + 2) 29 1 #[v] ⟨A, cap, by rw [ev], hv1, hg⟩ rfl (by omega)
  by_cases hl : l = []
  · refine ⟨A, cap, fun _ => none, [(b1, l)], w3, _, ev, hv1, hv2, by rw [k2.cell]; rfl, k2.free 3, rfl, k3, rfl, k4, k4', ⟨se b1 (.inl hl), Inv.start0 _ _ _ _, by simp, fun r hr => ?_, .inl hl, Below.refl _ _⟩, rfl, hb4, by omega⟩
    rw [List.mem_singleton] at hr
    subst hr
    exact .inl ⟨hl, by show b1 < b1 + 2; omega⟩
  · obtain ⟨g, cap', ev', _, hgB, hI⟩ := Inv.one o3 hl
    have hA : A = some ⟨g, 0, none⟩ := by
      rw [ev] at ev'
      injection ev'
    refine ⟨A, cap, _, [(g, l)], w3, _, ev, hv1, hv2, by rw [k2.cell]; rfl, k2.free 3, rfl, k3, rfl, k4, k4', ⟨se g (.inr hA), (hI.on S4 (by omega)).congr fun b l' i _ _ => ?_, by simp, fun r hr => ?_, .inr ⟨g, hA, by simp⟩, Below.refl _ _⟩, rfl, hb4, by omega⟩
    · simp
    · rw [List.mem_singleton] at hr
      subst hr
      exact .inr (by simp)

theorem Inv.less {w : World} {n B B' : Nat} {M : Nat → Option (List It)} {P : Nat → Nat → Prop} (h : Inv w n B M P) (hB : B' ≤ B) : Inv w n B' M P := fun g l hg => ⟨Nat.le_trans hB (h g l hg).1, (h g l hg).2⟩
/-- The topmost list is taken. -/
theorem CS.pop {w wr : World} {n B g : Nat} {M : Nat → Option (List It)} {v0 v : Value} {T : List (Nat × List It)} {root l : List It} {A : Option Addr} (h : CS w wr n B M v0 (T ++ [(g, l)]) (fun b _ => b ∈ (T ++ [(g, l)]).map (·.1)) root A) (ho : OwnG SE wr B 29 1 v T) :
    CS w wr n B M v (T ++ []) (fun b i => b ∈ (T ++ ([] : List (Nat × List It))).map (fun r => r.1) ∨ (b = g ∧ 0 ≤ i)) root A ∧ g ∉ (T ++ ([] : List (Nat × List It))).map (fun r => r.1) ∧ ((l = [] ∧ g < B) ∨ M g = some l) := by
  have hnd := h.nod
  rw [List.map_append, List.nodup_append] at hnd
  rw [List.append_nil]
  refine ⟨⟨ho, h.inv.congr fun b l' i _ _ => ?_, hnd.1, fun r hr => h.tc r (by simp [hr]), h.root, h.bel⟩, fun hg => hnd.2.2 g hg g (by simp) rfl, h.tc (g, l) (by simp)⟩
  simp
/-- All items of a list have new lists. -/
theorem CS.done {w wr : World} {n B g j : Nat} {M : Nat → Option (List It)} {v : Value} {T : List (Nat × List It)} {root l : List It} {A : Option Addr} (h : CS w wr n B M v T (fun b i => b ∈ T.map (·.1) ∨ (b = g ∧ j ≤ i)) root A) (hg : (l = [] ∧ g < B) ∨ M g = some l) (hj : l.length = j) :
    CS w wr n B M v T (fun b _ => b ∈ T.map (·.1)) root A := h.congr fun b l' i hb hi => by
  constructor
  · rintro (p | ⟨rfl, p⟩)
    · exact p
    · exfalso
      rcases hg with ⟨_, hg⟩ | hg
      · have := (h.inv _ _ hb).1; omega
      · rw [hg] at hb
        injection hb with hb
        subst hb
        omega
  · exact .inl
theorem CS.item {w wr : World} {n B g j : Nat} {M : Nat → Option (List It)} {v : Value} {T : List (Nat × List It)} {root l : List It} {A : Option Addr} {X : It} (h : CS w wr n B M v T (fun b i => b ∈ T.map (·.1) ∨ (b = g ∧ j ≤ i)) root A) (hg : M g = some l) (hX : l[j]? = some X) :
    ∃ A0 cap0, wr.cell? ⟨g, j * 4 + 3, none⟩ = some (.slice A0 X.l.length cap0) ∧ wr.frozen? ⟨g, j * 4 + 3, none⟩ = false ∧ g < wr.heap.size ∧ RL wr n X.l A0 cap0 := by
  obtain ⟨_, ⟨cs, h2, _⟩, h3⟩ := h.inv g l hg
  obtain ⟨A0, cap0, _, _, _, c3, _, _, e3, _⟩ := h3 j X hX
  exact ⟨A0, cap0, c3, h2.free _, h2.lt, e3 (.inr ⟨rfl, Nat.le_refl _⟩)⟩

end Go.Proofs.YtgbbgdjdomkohaaGreat
