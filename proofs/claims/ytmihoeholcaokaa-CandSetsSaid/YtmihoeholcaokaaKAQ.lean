/- Slices of the call's own whose elements are laid by some cells each: stacks. -/
import Derived.Test.YtmihoeholcaokaaKAG
import Derived.Test.YtmihoeholcaokaaKAP
namespace Go.Proofs.Ytmihoeholcaokaa
open Go.RowKit

def LayG {α : Type} (E : α → List Value → Prop) : List α → List Value → Prop
  | [], cs => cs = []
  | x :: r, cs => ∃ c cs', cs = c ++ cs' ∧ E x c ∧ LayG E r cs'
/-- A slice of the call's own, of elements that E lays by s cells of type e each. -/
def OwnG {α : Type} (E : α → List Value → Prop) (w : World) (B : Nat) (e : TypeId) (s : Nat) (v : Value) (xs : List α) : Prop := ∃ cs, w.ownsRow B e s v xs.length cs ∧ LayG E xs cs
section
variable {α : Type} {E E' : α → List Value → Prop} {w w' : World} {B g cap m s : Nat} {e : TypeId} {v : Value} {x x' : α} {xs ys : List α} {c c' cs cs' : List Value}
theorem LayG.one (h : E x c) : LayG E [x] c := ⟨c, [], by simp, h, rfl⟩
theorem LayG.append : ∀ {xs : List α} {cs : List Value}, LayG E xs cs → LayG E ys cs' → LayG E (xs ++ ys) (cs ++ cs')
  | [], cs, h, k => by cases (show cs = [] from h); exact k
  | x :: r, cs, ⟨c, c', e, h1, h2⟩, k => ⟨c, c' ++ cs', by rw [e, List.append_assoc], h1, LayG.append h2 k⟩
theorem LayG.imp (hE : ∀ x c, E x c → E' x c) : ∀ {xs : List α} {cs : List Value}, LayG E xs cs → LayG E' xs cs
  | [], _, h => h
  | _ :: _, _, ⟨c, c', e, h1, h2⟩ => ⟨c, c', e, hE _ _ h1, LayG.imp hE h2⟩
theorem LayG.length (hE : ∀ x c, E x c → c.length = s) : ∀ {xs : List α} {cs : List Value}, LayG E xs cs → cs.length = xs.length * s
  | [], cs, h => by cases (show cs = [] from h); simp
  | x :: r, cs, ⟨c, c', e, h1, h2⟩ => by
    subst e
    rw [List.length_append, hE _ _ h1, h2.length hE, List.length_cons, Nat.add_mul]
    omega
theorem LayG.snoc : ∀ {xs : List α} {cs : List Value}, LayG E (xs ++ [x]) cs → ∃ c c', cs = c ++ c' ∧ LayG E xs c ∧ E x c'
  | [], cs, ⟨c, c', e, h1, h2⟩ => by
    cases (show c' = [] from h2)
    exact ⟨[], c, by rw [e]; simp, rfl, h1⟩
  | y :: r, cs, ⟨c, c', e, h1, h2⟩ => by
    obtain ⟨d, d', e', h3, h4⟩ := LayG.snoc (xs := r) h2
    exact ⟨c ++ d, d', by rw [e, e', List.append_assoc], ⟨c, d, rfl, h1, h3⟩, h4⟩
theorem OwnG.imp (h : OwnG E w B e s v xs) (hE : ∀ x c, E x c → E' x c) : OwnG E' w B e s v xs := let ⟨cs, h1, h2⟩ := h; ⟨cs, h1, h2.imp hE⟩
theorem OwnG.on (h : OwnG E w B e s v xs) (hb : Below w.heap.size w w') : OwnG E w' B e s v xs := let ⟨cs, h1, h2⟩ := h; ⟨cs, oc_on h1 hb, h2⟩
theorem OwnG.kept (h : OwnG E w B e s v xs) {row : Option Nat} (hg : w.grownBy w' row) (hne : v.ownBlock = none ∨ v.ownBlock ≠ row) : OwnG E w' B e s v xs := let ⟨cs, h1, h2⟩ := h; ⟨cs, h1.kept hg hne, h2⟩
theorem OwnG.less (h : OwnG E w B e s v xs) {B' : Nat} (hB : B' ≤ B) : OwnG E w B' e s v xs := let ⟨cs, h1, h2⟩ := h; ⟨cs, oc_less h1 hB, h2⟩
theorem OwnG.far (h : OwnG E w B e s (.slice (some ⟨g, 0, none⟩) m cap) xs) {p : Addr} (hp : g ≠ p.block) (u : Value) : OwnG E (w.setCell p u) B e s (.slice (some ⟨g, 0, none⟩) m cap) xs := let ⟨cs, h1, h2⟩ := h; ⟨cs, oc_far h1 hp u, h2⟩
theorem OwnG.form (h : OwnG E w B e s v xs) : ∃ A cap, v = .slice A xs.length cap ∧ xs.length ≤ cap ∧ cap ≤ maxLen ∧ (A = none → cap = 0) ∧ (∀ p, A = some p → ∃ g, p = ⟨g, 0, none⟩ ∧ B ≤ g ∧ g < w.heap.size) := let ⟨_, h1, _⟩ := h; oc_form h1
theorem OwnG.head (h : OwnG E w B e s v xs) (hn : 0 < xs.length) : ∃ g cap, v = .slice (some ⟨g, 0, none⟩) xs.length cap ∧ xs.length ≤ cap ∧ cap ≤ maxLen ∧ B ≤ g ∧ g < w.heap.size := let ⟨_, h1, _⟩ := h; oc_head h1 hn
theorem OwnG.nil (E : α → List Value → Prop) (w : World) (B : Nat) (e : TypeId) (s : Nat) : OwnG E w B e s (.slice none 0 0) [] := ⟨[], World.ownsRow_nil w B e s, rfl⟩
/-- A block of one element that has just been made. -/
theorem OwnG.fresh (w : World) (B : Nat) (e : TypeId) (s : Nat) (cells : Array Value) (hx : E x cells.toList) (hc : cells.size = s) (hB : B ≤ w.heap.size) : OwnG E (w.alloc (.cells cells e)) B e s (.slice (some ⟨w.heap.size, 0, none⟩) 1 1) [x] :=
  ⟨cells.toList, oc_new w B e s 1 cells (by omega) hB (by unfold maxLen; omega), LayG.one hx⟩
/-- What lies on top. -/
theorem OwnG.top (h : OwnG E w B e s (.slice (some ⟨g, 0, none⟩) m cap) (xs ++ [x])) (hE : ∀ x c, E x c → c.length = s) : ∃ c, E x c ∧ (∀ i u, c[i]? = some u → w.cell? ⟨g, xs.length * s + i, none⟩ = some u ∧ w.frozen? ⟨g, xs.length * s + i, none⟩ = false) ∧
    OwnG E w B e s (.slice (some ⟨g, 0, none⟩) xs.length cap) xs := by
  obtain ⟨cs, h1, h2⟩ := h
  obtain ⟨c, c', rfl, h3, h4⟩ := h2.snoc
  have hl := h3.length hE
  refine ⟨c', h4, fun i u hu => ?_, c, ?_, h3⟩
  · have hi : i < c'.length := by
      rcases Nat.lt_or_ge i c'.length with h | h
      · exact h
      · rw [List.getElem?_eq_none h] at hu; cases hu
    have hlt : xs.length * s + i < (xs ++ [x]).length * s := by
      rw [hE _ _ h4] at hi
      rw [List.length_append, List.length_singleton, Nat.add_mul, Nat.one_mul]
      omega
    have := oc_cell h1 hlt
    rw [List.getElem?_append_right (by omega), hl, show xs.length * s + i - xs.length * s = i by omega, hu] at this
    exact this
  · have := oc_cut h1 (k := xs.length) (by simp)
    rwa [← hl, List.take_left] at this
/-- What lies on top, of one cell, is written. -/
theorem OwnG.setTop (h : OwnG E w B e 1 (.slice (some ⟨g, 0, none⟩) m cap) (xs ++ [x])) (hE : ∀ x c, E x c → c.length = 1) {u : Value} (hu : E x' [u]) : OwnG E (w.setCell ⟨g, xs.length, none⟩ u) B e 1 (.slice (some ⟨g, 0, none⟩) m cap) (xs ++ [x']) := by
  obtain ⟨cs, h1, h2⟩ := h
  obtain ⟨c, c', rfl, h3, h4⟩ := h2.snoc
  have hl := h3.length hE
  have hc' := hE _ _ h4
  obtain ⟨y, rfl⟩ : ∃ y, c' = [y] := List.length_eq_one_iff.1 hc'
  refine ⟨c ++ [u], ?_, h3.append (LayG.one hu)⟩
  have := oc_put h1 xs.length u
  rw [List.length_append, List.length_singleton] at this ⊢
  rwa [show (c ++ [y]).set xs.length u = c ++ [u] by rw [List.set_append_right _ _ (by omega), show xs.length - c.length = 0 by omega]; rfl] at this
/-- One more is laid on top. -/
theorem OwnG.push {P : Program} {t ty : TypeId} {bytes : Nat} {z : Value} (ht : P.underlying t = some (.slice e)) (hi : (P.info? e).map (fun i => (i.zero, i.size, i.bytes)) = some (some z, s, bytes)) (hzs : z.cells.size = s) (hsz : 0 < s) (hby : bytes ≤ 64)
    (h : OwnG E w B e s v xs) {a : Addr} {k : Nat} (hx : E x c) (hl : c.length = s) (hc : ∀ j u, c[j]? = some u → w.cell? (a.add j) = some u) (h1 : ∀ u ∈ c, u.oneCell' = true) (hb : xs.length + 1 ≤ 1099511627776) (hB : B ≤ w.heap.size) :
    ∃ v' w', (Builtin.append_ #[t, t] ty #[v, .slice (some a) 1 k]).run P w = .ok v' w' ∧ OwnG E w' B e s v' (xs ++ [x]) ∧ Below B w w' ∧ w.grownBy w' v.ownBlock ∧ (v'.ownBlock = v.ownBlock ∨ v'.ownBlock = some w.heap.size) := by
  obtain ⟨cs, o1, l1⟩ := h
  obtain ⟨v', w', r1, r2, r3, r4, r5⟩ := oc_append (P := P) (t := t) (ty := ty) (m := 1) (c := k) (news := c) ht hi hzs hsz hby o1 (by omega) hc h1 hb hB
  exact ⟨v', w', r1, ⟨cs ++ c, by rw [List.length_append, List.length_singleton]; exact r2, l1.append (LayG.one hx)⟩, r3, r4, r5⟩
end
end Go.Proofs.Ytmihoeholcaokaa

/- Pairs of lists that are still to be held against each other. -/
namespace Go.Proofs.Ytmihoeholcaokaa
open Go.RowKit

/-- A list of items lies in memory, below block n. -/
structure RL (w : World) (n : Nat) (l : List It) (A : Option Addr) (cap : Nat) : Prop where
  le : l.length ≤ cap
  nil : A = none → cap = 0
  at_ : AtL w (· < n) l A
theorem AtB.rl {w : World} {n : Nat} {t : It} {A : Option Addr} {cap : Nat} (h : AtB w n t A cap) : RL w n t.l A cap := ⟨h.le, h.nil, h.at_⟩
theorem RL.keep {w w' : World} {n : Nat} {l : List It} {A : Option Addr} {cap : Nat} (h : RL w n l A cap) (hb : Below n w w') : RL w' n l A cap := ⟨h.le, h.nil, AtL.keep (fun b hlt _ => hb.block b hlt) (fun _ h => h) _ _ h.at_⟩
theorem RL.item {w : World} {n : Nat} {l : List It} {A : Option Addr} {cap : Nat} (h : RL w n l A cap) {i : Nat} (hi : i < l.length) : ∃ b o X A' cap', A = some ⟨b, o, none⟩ ∧ b < n ∧ b < w.heap.size ∧ l[i]? = some X ∧ X ∈ l ∧
    w.cell? ⟨b, o + i * 4, none⟩ = some (.int .i64 X.k) ∧ w.cell? ⟨b, o + i * 4 + 1, none⟩ = some (.int .u64 X.n) ∧ w.cell? ⟨b, o + i * 4 + 2, none⟩ = some (.string X.s) ∧
    w.cell? ⟨b, o + i * 4 + 3, none⟩ = some (.slice A' X.l.length cap') ∧ AtB w n X A' cap' :=
  AtB.item (t := .mk 0 0 ⟨#[]⟩ l) ⟨h.le, h.nil, h.at_⟩ hi

def kidsP : List It → List It → List (List It × List It)
  | x :: p, y :: q => (if x.l.isEmpty then [] else [(x.l, y.l)]) ++ kidsP p q
  | [], _ => []
  | _ :: _, [] => []
theorem kidsP_append : ∀ {p q : List It} (p' q' : List It), p.length = q.length → kidsP (p ++ p') (q ++ q') = kidsP p q ++ kidsP p' q'
  | [], [], _, _, _ => rfl
  | x :: p, y :: q, p', q', h => by
    simp only [List.cons_append, kidsP, List.append_assoc]
    rw [kidsP_append p' q' (by simpa using h)]
theorem take_at {l : List It} {j : Nat} {X : It} (h : l[j]? = some X) : l.take (j + 1) = l.take j ++ [X] ∧ j < l.length := by
  have hj : j < l.length := by
    rcases Nat.lt_or_ge j l.length with h' | h'
    · exact h'
    · rw [List.getElem?_eq_none h'] at h; cases h
  rw [List.getElem?_eq_getElem hj] at h
  injection h with h
  exact ⟨by rw [List.take_succ_eq_append_getElem hj, h], hj⟩
theorem kidsP_take {p q : List It} {j : Nat} {X Y : It} (hX : p[j]? = some X) (hY : q[j]? = some Y) : kidsP (p.take (j + 1)) (q.take (j + 1)) = kidsP (p.take j) (q.take j) ++ (if X.l.isEmpty then [] else [(X.l, Y.l)]) := by
  obtain ⟨e1, h1⟩ := take_at hX
  obtain ⟨e2, h2⟩ := take_at hY
  rw [e1, e2, kidsP_append [X] [Y] (by rw [List.length_take, List.length_take]; omega)]
  simp [kidsP]
/-- The first j are alike. -/
def Alike (p q : List It) (j : Nat) : Prop := ∀ (i : Nat) (X Y : It), i < j → p[i]? = some X → q[i]? = some Y → oneC X Y = 0
theorem Alike.zero (p q : List It) : Alike p q 0 := fun i _ _ h => absurd h (by omega)
theorem Alike.succ {p q : List It} {j : Nat} {X Y : It} (h : Alike p q j) (hX : p[j]? = some X) (hY : q[j]? = some Y) (h0 : oneC X Y = 0) : Alike p q (j + 1) := fun i X' Y' hi h1 h2 => by
  by_cases e : i = j
  · subst e
    rw [hX] at h1; rw [hY] at h2
    cases h1; cases h2
    exact h0
  · exact h i X' Y' (by omega) h1 h2
theorem Alike.all {p q : List It} (hl : p.length = q.length) (h : Alike p q p.length) : ∀ i (hi : i < p.length), oneC p[i] (q[i]'(by omega)) = 0 := fun i hi =>
  h i _ _ hi (List.getElem?_eq_getElem hi) (List.getElem?_eq_getElem (by omega))
theorem kidsP_facts : ∀ {p q : List It}, p.length = q.length → Alike p q p.length → (kidsP p q).map (·.1) = kids p ∧ (kidsP p q).map (·.2) = kids q ∧ ∀ r ∈ kidsP p q, r.1.length = r.2.length
  | [], [], _, _ => ⟨rfl, rfl, fun r hr => by cases hr⟩
  | x :: p, y :: q, hl, h => by
    have h0 := oneC_zero.1 (h 0 x y (by simp) rfl rfl)
    have ih := kidsP_facts (p := p) (q := q) (by simpa using hl) fun i X Y hi h1 h2 => h (i + 1) X Y (by simpa using hi) (by simpa using h1) (by simpa using h2)
    have hl0 := h0.2.2.1
    have he : x.l.isEmpty = y.l.isEmpty := by
      rw [Bool.eq_iff_iff, List.isEmpty_iff_length_eq_zero, List.isEmpty_iff_length_eq_zero, hl0]
    rw [show kids (x :: p) = kids [x] ++ kids p from kids_append [x] p, show kids (y :: q) = kids [y] ++ kids q from kids_append [y] q, kids_one, kids_one, ← he]
    simp only [kidsP]
    cases hx : x.l.isEmpty
    · refine ⟨by simp [ih.1], by simp [ih.2.1], fun r hr => ?_⟩
      simp only [Bool.false_eq_true, if_false, List.cons_append, List.nil_append, List.mem_cons] at hr
      rcases hr with rfl | hr
      · exact hl0
      · exact ih.2.2 r hr
    · simpa using ih
/-- What is still to be held against each other decides z. -/
def Left (ps : List (List It × List It)) (z : Int) : Prop := (∀ r ∈ ps, r.1.length = r.2.length) ∧ seqC oneC (trav (ps.map (·.1)).reverse) (trav (ps.map (·.2)).reverse) = z
theorem Left.start {x y : It} (h : oneC x y = 0) : Left [(x.l, y.l)] (itC x y) :=
  ⟨fun r hr => by
    rw [List.mem_singleton] at hr
    subst hr
    exact (oneC_zero.1 h).2.2.1, (itC_more h).symm⟩
theorem Left.done {z : Int} (h : Left [] z) : z = 0 := by
  have := h.2
  simp only [List.map_nil, List.reverse_nil, trav_nil, seqC] at this
  exact this.symm
theorem Left.len {ps : List (List It × List It)} {p q : List It} {z : Int} (h : Left (ps ++ [(p, q)]) z) : p.length = q.length := h.1 (p, q) (by simp)
theorem Left.step {ps : List (List It × List It)} {p q : List It} {z : Int} (h : Left (ps ++ [(p, q)]) z) (ha : Alike p q p.length) : Left (ps ++ kidsP p q) z := by
  have hl := h.len
  obtain ⟨f1, f2, f3⟩ := kidsP_facts hl ha
  refine ⟨fun r hr => ?_, ?_⟩
  · rcases List.mem_append.1 hr with hr | hr
    · exact h.1 r (by simp [hr])
    · exact f3 r hr
  · have h2 := h.2
    simp only [List.map_append, List.map_cons, List.map_nil, List.reverse_append, List.reverse_cons, List.reverse_nil, List.nil_append, List.cons_append] at h2 ⊢
    rw [trav_cons, trav_cons, seqC_skip hl (ha.all hl)] at h2
    unfold push at h2
    rw [f1, f2]
    exact h2
theorem Left.size {ps : List (List It × List It)} {p q : List It} (hl : p.length = q.length) (ha : Alike p q p.length) : stSize ((ps ++ kidsP p q).map (·.1)).reverse < stSize ((ps ++ [(p, q)]).map (·.1)).reverse := by
  obtain ⟨f1, _, _⟩ := kidsP_facts hl ha
  simp only [List.map_append, List.map_cons, List.map_nil, List.reverse_append, List.reverse_cons, List.reverse_nil, List.nil_append, List.cons_append]
  rw [f1]
  exact stSize_push p _
theorem Left.fail {ps : List (List It × List It)} {p q : List It} {z : Int} {j : Nat} {X Y : It} (h : Left (ps ++ [(p, q)]) z) (ha : Alike p q j) (hX : p[j]? = some X) (hY : q[j]? = some Y) (h0 : oneC X Y ≠ 0) : z = oneC X Y := by
  have hl := h.len
  have h2 := h.2
  simp only [List.map_append, List.map_cons, List.map_nil, List.reverse_append, List.reverse_cons, List.reverse_nil, List.nil_append, List.cons_append] at h2
  rw [trav_cons, trav_cons] at h2
  obtain ⟨e1, h1⟩ := take_at hX
  obtain ⟨e2, h3⟩ := take_at hY
  have d1 : p = p.take j ++ X :: p.drop (j + 1) := by conv => lhs; rw [← List.take_append_drop (j + 1) p, e1, List.append_assoc]; simp
  have d2 : q = q.take j ++ Y :: q.drop (j + 1) := by conv => lhs; rw [← List.take_append_drop (j + 1) q, e2, List.append_assoc]; simp
  generalize push p (ps.map (·.1)).reverse = r1 at h2
  generalize push q (ps.map (·.2)).reverse = r2 at h2
  have hs : seqC oneC (p ++ trav r1) (q ++ trav r2) = seqC oneC (X :: p.drop (j + 1) ++ trav r1) (Y :: q.drop (j + 1) ++ trav r2) := by
    conv => lhs; rw [d1, d2]
    rw [List.append_assoc, List.append_assoc]
    refine seqC_skip (by rw [List.length_take, List.length_take]; omega) (fun i hi => ?_) _ _
    rw [List.length_take] at hi
    rw [List.getElem_take, List.getElem_take]
    exact ha i _ _ (by omega) (List.getElem?_eq_getElem (by omega)) (List.getElem?_eq_getElem (by omega))
  rw [hs] at h2
  simp only [List.cons_append, seqC] at h2
  rw [if_pos h0] at h2
  exact h2.symm
/-- Two lists, as two slices. -/
def PE (w : World) (n : Nat) : List It × List It → List Value → Prop := fun p c => ∃ A1 c1 A2 c2, c = [.slice A1 p.1.length c1, .slice A2 p.2.length c2] ∧ RL w n p.1 A1 c1 ∧ RL w n p.2 A2 c2
theorem PE.keep {w w' : World} {n : Nat} (hb : Below n w w') : ∀ x c, PE w n x c → PE w' n x c := fun _ _ ⟨A1, c1, A2, c2, e, h1, h2⟩ => ⟨A1, c1, A2, c2, e, h1.keep hb, h2.keep hb⟩
theorem PE.len {w : World} {n : Nat} : ∀ x c, PE w n x c → c.length = 2 := fun _ _ ⟨_, _, _, _, e, _, _⟩ => by rw [e]; rfl
theorem infoPair : (Try.prog.info? 92).map (fun i => (i.zero, i.size, i.bytes)) = some (some (.agg #[.slice none 0 0, .slice none 0 0]), 2, 48) := by kernel_rfl
theorem sizePair : (Try.prog.info? 92).map (·.size) = some 2 := by kernel_rfl
end Go.Proofs.Ytmihoeholcaokaa
