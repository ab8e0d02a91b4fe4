/- Items by value on slices of the call's own. -/
import Derived.Test.YtmihoeholcaokaaKAO
import Derived.Test.YtmihoeholcaokaaKAG
namespace Go.Proofs.Ytmihoeholcaokaa
open Go.RowKit

/-- An item's items lie in memory, all below block n. -/
structure AtB (w : World) (n : Nat) (t : It) (A : Option Addr) (cap : Nat) : Prop where
  le : t.l.length ≤ cap
  nil : A = none → cap = 0
  at_ : AtL w (· < n) t.l A
def ic (t : It) (A : Option Addr) (cap : Nat) : List Value := [.int .i64 t.k, .int .u64 t.n, .string t.s, .slice A t.l.length cap]
theorem ic_one (t : It) (A : Option Addr) (cap : Nat) : ∀ u ∈ ic t A cap, u.oneCell' = true := by
  intro u hu
  simp only [ic, List.mem_cons, List.not_mem_nil, or_false] at hu
  rcases hu with rfl | rfl | rfl | rfl <;> rfl
/-- The cells of items, one behind the other. -/
def Lay (w : World) (n : Nat) : List It → List Value → Prop
  | [], cs => cs = []
  | t :: r, cs => ∃ A cap cs', cs = ic t A cap ++ cs' ∧ AtB w n t A cap ∧ Lay w n r cs'
/-- A slice of the call's own that reads as items. -/
def OwnI (w : World) (n B : Nat) (v : Value) (its : List It) : Prop := ∃ cs, w.ownsRow B 39 4 v its.length cs ∧ Lay w n its cs
section
variable {w w' : World} {n n' B g cap : Nat} {t : It} {A : Option Addr} {v : Value} {its xs : List It} {cs cs' : List Value}
theorem AtB.toV (h : AtB w n t A cap) : AtV w t A cap := ⟨h.le, h.nil, h.at_.more fun _ _ => trivial⟩
theorem AtB.keep (h : AtB w n t A cap) (hb : Below n w w') : AtB w' n t A cap := ⟨h.le, h.nil, AtL.keep (fun b hlt _ => hb.block b hlt) (fun _ h => h) _ _ h.at_⟩
theorem AtB.more (h : AtB w n t A cap) (hn : n ≤ n') : AtB w n' t A cap := ⟨h.le, h.nil, h.at_.more fun _ h => Nat.lt_of_lt_of_le h hn⟩
theorem AtV.toB (h : AtV w t A cap) : AtB w w.heap.size t A cap := by
  refine ⟨h.le, h.nil, ?_⟩
  have : ∀ (l : List It) (A : Option Addr), AtL w (fun _ => True) l A → AtL w (· < w.heap.size) l A := by
    suffices H : ∀ (c : Nat) (l : List It) (A : Option Addr), countL l ≤ c → AtL w (fun _ => True) l A → AtL w (· < w.heap.size) l A from fun l A => H _ l A (Nat.le_refl _)
    intro c
    induction c with
    | zero =>
      intro l A hc h
      cases l with
      | nil => exact AtL.nil _
      | cons t r => rw [countL, It.count_eq] at hc; omega
    | succ c ih =>
      intro l A hc h
      cases l with
      | nil => exact AtL.nil _
      | cons t r =>
        rw [countL, It.count_eq] at hc
        obtain ⟨b, o, rfl, _, hb, h1, h2⟩ := h.cons
        obtain ⟨A', cap', c0, c1, c2, c3, g1, g2, g3⟩ := h1.parts
        exact AtL.mk hb hb (At1.mk A' cap' c0 c1 c2 c3 g1 g2 (ih _ _ (by omega) g3)) (ih _ _ (by omega) h2)
  exact this _ _ h.at_
/-- Item number i: its cells, and what stands behind them. -/
theorem AtB.item (h : AtB w n t A cap) {i : Nat} (hi : i < t.l.length) : ∃ b o X A' cap', A = some ⟨b, o, none⟩ ∧ b < n ∧ b < w.heap.size ∧ t.l[i]? = some X ∧ X ∈ t.l ∧
    w.cell? ⟨b, o + i * 4, none⟩ = some (.int .i64 X.k) ∧ w.cell? ⟨b, o + i * 4 + 1, none⟩ = some (.int .u64 X.n) ∧ w.cell? ⟨b, o + i * 4 + 2, none⟩ = some (.string X.s) ∧
    w.cell? ⟨b, o + i * 4 + 3, none⟩ = some (.slice A' X.l.length cap') ∧ AtB w n X A' cap' := by
  obtain ⟨b, o, rfl, hn, hb, h1, _⟩ := h.at_.get hi
  rw [Nat.mul_comm 4 i] at h1
  obtain ⟨A', cap', c0, c1, c2, c3, g1, g2, g3⟩ := h1.parts
  exact ⟨b, o, t.l[i], A', cap', rfl, hn, hb, List.getElem?_eq_getElem hi, List.getElem_mem hi, c0, c1, c2, c3, g1, g2, g3⟩
theorem Lay.one (h : AtB w n t A cap) : Lay w n [t] (ic t A cap) := ⟨A, cap, [], by simp, h, rfl⟩
theorem Lay.append : ∀ {its : List It} {cs : List Value}, Lay w n its cs → Lay w n xs cs' → Lay w n (its ++ xs) (cs ++ cs')
  | [], cs, h, k => by cases (show cs = [] from h); exact k
  | t :: r, cs, ⟨A, cap, c, e, h1, h2⟩, k => ⟨A, cap, c ++ cs', by rw [e, List.append_assoc], h1, Lay.append h2 k⟩
theorem Lay.keep (hb : Below n w w') : ∀ {its : List It} {cs : List Value}, Lay w n its cs → Lay w' n its cs
  | [], _, h => h
  | _ :: _, _, ⟨A, cap, c, e, h1, h2⟩ => ⟨A, cap, c, e, h1.keep hb, Lay.keep hb h2⟩
theorem Lay.more (hn : n ≤ n') : ∀ {its : List It} {cs : List Value}, Lay w n its cs → Lay w n' its cs
  | [], _, h => h
  | _ :: _, _, ⟨A, cap, c, e, h1, h2⟩ => ⟨A, cap, c, e, h1.more hn, Lay.more hn h2⟩
theorem Lay.one_cell : ∀ {its : List It} {cs : List Value}, Lay w n its cs → ∀ u ∈ cs, u.oneCell' = true
  | [], cs, h, u, hu => by cases (show cs = [] from h); cases hu
  | t :: r, cs, ⟨A, cap, c, e, h1, h2⟩, u, hu => by
    subst e
    rcases List.mem_append.1 hu with h | h
    · exact ic_one _ _ _ u h
    · exact h2.one_cell u h
theorem Lay.length : ∀ {its : List It} {cs : List Value}, Lay w n its cs → cs.length = its.length * 4
  | [], cs, h => by cases (show cs = [] from h); rfl
  | t :: r, cs, ⟨A, cap, c, e, h1, h2⟩ => by
    subst e
    have := h2.length
    simp only [List.length_append, List.length_cons, ic, List.length_nil, this]
    omega
theorem Lay.get : ∀ {its : List It} {cs : List Value}, Lay w n its cs → ∀ {i : Nat} {X : It}, its[i]? = some X → ∃ A cap, cs[i * 4]? = some (.int .i64 X.k) ∧ cs[i * 4 + 1]? = some (.int .u64 X.n) ∧ cs[i * 4 + 2]? = some (.string X.s) ∧ cs[i * 4 + 3]? = some (.slice A X.l.length cap) ∧ AtB w n X A cap
  | [], _, _, i, X, hX => by cases hX
  | t :: r, cs, ⟨A, cap, c, e, h1, h2⟩, i, X, hX => by
    subst e
    cases i with
    | zero =>
      obtain rfl : t = X := by simpa using hX
      exact ⟨A, cap, rfl, rfl, rfl, rfl, h1⟩
    | succ i =>
      obtain ⟨A', cap', c0, c1, c2, c3, h⟩ := h2.get (i := i) (X := X) (by simpa using hX)
      refine ⟨A', cap', ?_, ?_, ?_, ?_, h⟩ <;> rw [show (i + 1) * 4 = i * 4 + 4 by omega]
      · exact c0
      · exact c1
      · exact c2
      · exact c3
theorem OwnI.keepB (h : OwnI w n B v its) (hb : Below w.heap.size w w') (hn : n ≤ w.heap.size) : OwnI w' n B v its :=
  let ⟨cs, h1, h2⟩ := h
  ⟨cs, oc_on h1 hb, h2.keep (hb.mono hn)⟩
theorem OwnI.less (h : OwnI w n B v its) {B' : Nat} (hB : B' ≤ B) : OwnI w n B' v its :=
  let ⟨cs, h1, h2⟩ := h
  ⟨cs, oc_less h1 hB, h2⟩
/-- While another slice is appended to. -/
theorem OwnI.kept (h : OwnI w n B v its) {row : Option Nat} (hg : w.grownBy w' row) (hb : Below n w w') (hne : v.ownBlock ≠ row ∨ v.ownBlock = none) : OwnI w' n B v its :=
  let ⟨cs, h1, h2⟩ := h
  ⟨cs, h1.kept hg hne.symm, h2.keep hb⟩
theorem OwnI.form (h : OwnI w n B v its) (hn : 0 < its.length) : ∃ g cap, v = .slice (some ⟨g, 0, none⟩) its.length cap ∧ its.length ≤ cap ∧ cap ≤ maxLen ∧ B ≤ g ∧ g < w.heap.size :=
  let ⟨_, h1, _⟩ := h
  oc_head h1 hn
theorem OwnI.item (h : OwnI w n B (.slice (some ⟨g, 0, none⟩) its.length cap) its) {i : Nat} (hi : i < its.length) : ∃ X A' cap', its[i]? = some X ∧ X ∈ its ∧
    w.cell? ⟨g, i * 4, none⟩ = some (.int .i64 X.k) ∧ w.cell? ⟨g, i * 4 + 1, none⟩ = some (.int .u64 X.n) ∧ w.cell? ⟨g, i * 4 + 2, none⟩ = some (.string X.s) ∧
    w.cell? ⟨g, i * 4 + 3, none⟩ = some (.slice A' X.l.length cap') ∧ AtB w n X A' cap' := by
  obtain ⟨cs, h1, h2⟩ := h
  have hX := List.getElem?_eq_getElem hi
  obtain ⟨A, c, c0, c1, c2, c3, h3⟩ := h2.get hX
  exact ⟨its[i], A, c, hX, List.getElem_mem hi, (oc_cell h1 (by omega)).1.trans c0, (oc_cell h1 (by omega)).1.trans c1, (oc_cell h1 (by omega)).1.trans c2, (oc_cell h1 (by omega)).1.trans c3, h3⟩
end
theorem infoItem : (Try.prog.info? 39).map (fun i => (i.zero, i.size, i.bytes)) = some (some (.agg #[.int .i64 0, .int .u64 0, .string ⟨#[]⟩, .slice none 0 0]), 4, 56) := by kernel_rfl
theorem sizeItem : (Try.prog.info? 39).map (·.size) = some 4 := by kernel_rfl
/-- append of items to a slice of the call's own. -/
theorem run_append_items {w : World} {n B : Nat} {ty : TypeId} {v v2 : Value} {its xs : List It} {B2 : Nat} (hown : OwnI w n B v its) (h2 : OwnI w n B2 v2 xs) (hx : 0 < xs.length) (hsz : its.length + xs.length ≤ 1099511627776) (hB : B ≤ w.heap.size) (hn : n ≤ B) :
    ∃ v' w', (Builtin.append_ #[37, 37] ty #[v, v2]).run Try.prog w = .ok v' w' ∧ OwnI w' n B v' (its ++ xs) ∧ Below B w w' ∧ w.grownBy w' v.ownBlock := by
  obtain ⟨cs, o1, l1⟩ := hown
  obtain ⟨cs2, o2, l2⟩ := h2
  obtain ⟨g2, cap2, rfl, _, _, _, _⟩ := oc_head o2 hx
  obtain ⟨v', w', r1, r2, r3, r4, _⟩ := oc_append (P := Try.prog) (t := 37) (ty := ty) (e := 39) (s := 4) (bytes := 56) (m := xs.length) (c := cap2) (news := cs2) (a := ⟨g2, 0, none⟩) (by kernel_rfl) infoItem rfl (by decide) (by decide) o1 l2.length
    (fun j u hj => by
      have hj' : j < xs.length * 4 := by
        rw [← l2.length]
        rcases Nat.lt_or_ge j cs2.length with h | h
        · exact h
        · rw [List.getElem?_eq_none h] at hj; cases hj
      rw [Addr.add_mid, Nat.zero_add]
      exact (oc_cell o2 hj').1.trans hj) l2.one_cell hsz hB
  exact ⟨v', w', r1, ⟨cs ++ cs2, by rw [List.length_append]; exact r2, (l1.append l2).keep (r3.mono hn)⟩, r3, r4⟩
end Go.Proofs.Ytmihoeholcaokaa

/- Schemas in memory. -/
namespace Go.Proofs.Ytmihoeholcaokaa
open Go.RowKit

/-- Fields, one behind the other, below block B. -/
def RdF (w : World) (B : Nat) (A : Option Addr) (fs : List Fl) : Prop :=
  0 < fs.length → ∃ b o, A = some ⟨b, o, none⟩ ∧ b < B ∧ b < w.heap.size ∧ ∀ i x, fs[i]? = some x → w.cell? ⟨b, o + i * 3, none⟩ = some (.string x.key) ∧ w.cell? ⟨b, o + i * 3 + 1, none⟩ = some (.int .i64 x.node) ∧ w.cell? ⟨b, o + i * 3 + 2, none⟩ = some (.bool x.opt)
/-- Where a node's lists lie. -/
structure Pl where
  Av : Option Addr
  cv : Nat
  Al : Option Addr
  cl : Nat
  Af : Option Addr
  cf : Nat
/-- A node's lists lie in memory, all below block n. -/
structure NdB (w : World) (n : Nat) (x : Nd) (p : Pl) : Prop where
  v : AtB w n x.v p.Av p.cv
  l : Rd w n .i64 p.Al x.l
  ll : x.l.length ≤ p.cl
  ln : p.Al = none → p.cl = 0
  f : RdF w n p.Af x.f
  fl : x.f.length ≤ p.cf
  fn : p.Af = none → p.cf = 0
/-- A node by value; its cells. -/
def vN (x : Nd) (p : Pl) : Value := .agg #[.int .i64 x.k, .int .i64 x.lo, .int .i64 x.hi, .int .i64 x.v.k, .int .u64 x.v.n, .string x.v.s, .slice p.Av x.v.l.length p.cv, .slice p.Al x.l.length p.cl, .slice p.Af x.f.length p.cf]
def nc (x : Nd) (p : Pl) : Array Value := #[.int .i64 x.k, .int .i64 x.lo, .int .i64 x.hi, .int .i64 x.v.k, .int .u64 x.v.n, .string x.v.s, .slice p.Av x.v.l.length p.cv, .slice p.Al x.l.length p.cl, .slice p.Af x.f.length p.cf]
/-- Nodes, one behind the other. -/
def RdN (w : World) (B : Nat) (A : Option Addr) (xs : List Nd) : Prop :=
  0 < xs.length → ∃ b o, A = some ⟨b, o, none⟩ ∧ b < B ∧ b < w.heap.size ∧ ∀ i x, xs[i]? = some x → ∃ p, NdB w B x p ∧ ∀ j u, (nc x p)[j]? = some u → w.cell? ⟨b, o + i * 9 + j, none⟩ = some u
/-- A schema by value. -/
def vS (A : Option Addr) (xs : List Nd) (cap : Nat) : Value := .agg #[.slice A xs.length cap]
section
variable {w w' : World} {n n' B : Nat} {A : Option Addr} {fs : List Fl} {x : Nd} {p : Pl} {xs : List Nd}
theorem RdF.keep (h : RdF w n A fs) (hb : Below n w w') : RdF w' n A fs := fun hn => by
  obtain ⟨b, o, rfl, hlt, h2, hc⟩ := h hn
  exact ⟨b, o, rfl, hlt, lt_kept (hb.block b hlt) h2, fun i x hx => ⟨cell_kept' (hb.block b hlt) (hc i x hx).1, cell_kept' (hb.block b hlt) (hc i x hx).2.1, cell_kept' (hb.block b hlt) (hc i x hx).2.2⟩⟩
theorem RdF.more (h : RdF w n A fs) (hn : n ≤ n') : RdF w n' A fs := fun h0 => by
  obtain ⟨b, o, rfl, hlt, hc⟩ := h h0
  exact ⟨b, o, rfl, Nat.lt_of_lt_of_le hlt hn, hc⟩
theorem RdF.nil : RdF w n A [] := fun h => absurd h (by simp)
theorem RdF.get (h : RdF w n A fs) {i : Nat} (hi : i < fs.length) : ∃ b o x, A = some ⟨b, o, none⟩ ∧ b < n ∧ b < w.heap.size ∧ fs[i]? = some x ∧ w.cell? ⟨b, o + i * 3, none⟩ = some (.string x.key) ∧ w.cell? ⟨b, o + i * 3 + 1, none⟩ = some (.int .i64 x.node) ∧ w.cell? ⟨b, o + i * 3 + 2, none⟩ = some (.bool x.opt) := by
  obtain ⟨b, o, rfl, h1, h2, hc⟩ := h (by omega)
  exact ⟨b, o, fs[i], rfl, h1, h2, List.getElem?_eq_getElem hi, hc i _ (List.getElem?_eq_getElem hi)⟩
theorem NdB.keep (h : NdB w n x p) (hb : Below n w w') : NdB w' n x p := ⟨h.v.keep hb, h.l.below hb, h.ll, h.ln, h.f.keep hb, h.fl, h.fn⟩
theorem NdB.more (h : NdB w n x p) (hn : n ≤ n') : NdB w n' x p := ⟨h.v.more hn, h.l.more hn, h.ll, h.ln, h.f.more hn, h.fl, h.fn⟩
theorem RdN.keep (h : RdN w n A xs) (hb : Below n w w') : RdN w' n A xs := fun hn => by
  obtain ⟨b, o, rfl, hlt, h2, hc⟩ := h hn
  refine ⟨b, o, rfl, hlt, lt_kept (hb.block b hlt) h2, fun i x hx => ?_⟩
  obtain ⟨p, h3, h4⟩ := hc i x hx
  exact ⟨p, h3.keep hb, fun j u hu => cell_kept' (hb.block b hlt) (h4 j u hu)⟩
theorem RdN.more (h : RdN w n A xs) (hn : n ≤ n') : RdN w n' A xs := fun h0 => by
  obtain ⟨b, o, rfl, hlt, h2, hc⟩ := h h0
  refine ⟨b, o, rfl, Nat.lt_of_lt_of_le hlt hn, h2, fun i x hx => ?_⟩
  obtain ⟨p, h3, h4⟩ := hc i x hx
  exact ⟨p, h3.more hn, h4⟩
theorem RdN.get (h : RdN w n A xs) {i : Nat} (hi : i < xs.length) : ∃ b o x p, A = some ⟨b, o, none⟩ ∧ b < n ∧ b < w.heap.size ∧ xs[i]? = some x ∧ x ∈ xs ∧ NdB w n x p ∧
    w.cell? ⟨b, o + i * 9, none⟩ = some (.int .i64 x.k) ∧ w.cell? ⟨b, o + i * 9 + 1, none⟩ = some (.int .i64 x.lo) ∧ w.cell? ⟨b, o + i * 9 + 2, none⟩ = some (.int .i64 x.hi) ∧
    w.cell? ⟨b, o + i * 9 + 3, none⟩ = some (.int .i64 x.v.k) ∧ w.cell? ⟨b, o + i * 9 + 4, none⟩ = some (.int .u64 x.v.n) ∧ w.cell? ⟨b, o + i * 9 + 5, none⟩ = some (.string x.v.s) ∧ w.cell? ⟨b, o + i * 9 + 6, none⟩ = some (.slice p.Av x.v.l.length p.cv) ∧
    w.cell? ⟨b, o + i * 9 + 7, none⟩ = some (.slice p.Al x.l.length p.cl) ∧ w.cell? ⟨b, o + i * 9 + 8, none⟩ = some (.slice p.Af x.f.length p.cf) := by
  obtain ⟨b, o, rfl, h1, h2, hc⟩ := h (by omega)
  obtain ⟨p, h3, h4⟩ := hc i xs[i] (List.getElem?_eq_getElem hi)
  exact ⟨b, o, xs[i], p, rfl, h1, h2, List.getElem?_eq_getElem hi, List.getElem_mem hi, h3, h4 0 _ rfl, h4 1 _ rfl, h4 2 _ rfl, h4 3 _ rfl, h4 4 _ rfl, h4 5 _ rfl, h4 6 _ rfl, h4 7 _ rfl, h4 8 _ rfl⟩
/-- A block that holds a node. -/
theorem nblk {w : World} {g : Nat} {t : TypeId} {a0 a1 a2 a3 a4 a5 a6 a7 a8 : Value} (h : Blk w g t #[a0, a1, a2, a3, a4, a5, a6, a7, a8]) :
    w.cell? ⟨g, 0, none⟩ = some a0 ∧ w.cell? ⟨g, 1, none⟩ = some a1 ∧ w.cell? ⟨g, 2, none⟩ = some a2 ∧ w.cell? ⟨g, 3, none⟩ = some a3 ∧ w.cell? ⟨g, 4, none⟩ = some a4 ∧ w.cell? ⟨g, 5, none⟩ = some a5 ∧ w.cell? ⟨g, 6, none⟩ = some a6 ∧ w.cell? ⟨g, 7, none⟩ = some a7 ∧ w.cell? ⟨g, 8, none⟩ = some a8 :=
  ⟨by rw [h.cell]; rfl, by rw [h.cell]; rfl, by rw [h.cell]; rfl, by rw [h.cell]; rfl, by rw [h.cell]; rfl, by rw [h.cell]; rfl, by rw [h.cell]; rfl, by rw [h.cell]; rfl, by rw [h.cell]; rfl⟩
theorem zIt_at (w : World) (n : Nat) : AtB w n zIt none 0 := ⟨Nat.le_refl _, fun _ => rfl, AtL.nil _⟩
theorem of_at (w : World) (n : Nat) (k : Int) : NdB w n (Nd.of k) ⟨none, 0, none, 0, none, 0⟩ :=
  ⟨zIt_at w n, fun h => absurd h (by simp [Nd.of]), Nat.le_refl _, fun _ => rfl, RdF.nil, Nat.le_refl _, fun _ => rfl⟩
end
end Go.Proofs.Ytmihoeholcaokaa

/- The document's Items, Great, Depth. -/
namespace Go.Proofs.Ytmihoeholcaokaa
open Go.RowKit

def its (x : It) (d : Nat) : List It := (x.items d).map (·.2)
def itsL (l : List It) (d : Nat) : List It := (itemsL l d).map (·.2)
def deps (x : It) (d : Nat) : List Int := (x.items d).map fun p => (p.1 : Int)
def depsL (l : List It) (d : Nat) : List Int := (itemsL l d).map fun p => (p.1 : Int)
theorem its_eq (x : It) (d : Nat) : its x d = x :: itsL x.l (d + 1) := by simp [its, itsL, It.items_eq]
theorem deps_eq (x : It) (d : Nat) : deps x d = (d : Int) :: depsL x.l (d + 1) := by simp [deps, depsL, It.items_eq]
theorem itsL_take {l : List It} {k : Nat} {X : It} (h : l[k]? = some X) (d : Nat) : itsL (l.take (k + 1)) d = itsL (l.take k) d ++ its X d := by
  have hk : k < l.length := by
    rcases Nat.lt_or_ge k l.length with h' | h'
    · exact h'
    · rw [List.getElem?_eq_none h'] at h; cases h
  rw [List.getElem?_eq_getElem hk] at h
  injection h with h
  rw [List.take_succ_eq_append_getElem hk, itsL, itemsL_append, List.map_append, h]
  simp [itemsL, its, itsL]
theorem depsL_take {l : List It} {k : Nat} {X : It} (h : l[k]? = some X) (d : Nat) : depsL (l.take (k + 1)) d = depsL (l.take k) d ++ deps X d := by
  have hk : k < l.length := by
    rcases Nat.lt_or_ge k l.length with h' | h'
    · exact h'
    · rw [List.getElem?_eq_none h'] at h; cases h
  rw [List.getElem?_eq_getElem hk] at h
  injection h with h
  rw [List.take_succ_eq_append_getElem hk, depsL, itemsL_append, List.map_append, h]
  simp [itemsL, deps, depsL]
theorem length_its (x : It) (d : Nat) : (its x d).length = x.count := by rw [its, List.length_map, It.length_items]
theorem length_deps (x : It) (d : Nat) : (deps x d).length = x.count := by rw [deps, List.length_map, It.length_items]
theorem length_itsL (l : List It) (d : Nat) : (itsL l d).length = countL l := by rw [itsL, List.length_map, length_itemsL]
theorem length_depsL (l : List It) (d : Nat) : (depsL l d).length = countL l := by rw [depsL, List.length_map, length_itemsL]
theorem count_pos (x : It) : 0 < x.count := by rw [It.count_eq]; omega
theorem countL_take_le (l : List It) (k : Nat) : countL (l.take k) ≤ countL l := by
  conv => rhs; rw [← List.take_append_drop k l, countL_append]
  omega
/-- What Items hands back. -/
def ItemsPost (x : It) (n d B : Nat) (w' : World) (v1 v2 : Value) : Prop := OwnI w' n B v1 (its x d) ∧ Own w' B .i64 3 v2 (deps x d)
theorem own_ne {w : World} {B B' : Nat} {v1 v2 : Value} {c1 c2 : List Value} {n1 n2 s1 s2 : Nat} (h1 : w.ownsRow B 39 s1 v1 n1 c1) (h2 : w.ownsRow B' 3 s2 v2 n2 c2) : v1.ownBlock = none ∨ v1.ownBlock ≠ v2.ownBlock := by
  rcases h1.2 with ⟨rfl, _⟩ | ⟨g, cap, cur, rfl, _, hh, _⟩
  · left; rfl
  · right
    rcases h2.2 with ⟨rfl, _⟩ | ⟨g', cap', cur', rfl, _, hh', _⟩
    · simp [Value.ownBlock]
    · intro e
      have e' : g = g' := by simpa [Value.ownBlock] using e
      subst e'
      rw [hh] at hh'
      injection hh' with hh'
      injection hh' with _ hh' _
      cases hh'

theorem countL_take_succ {l : List It} {k : Nat} {X : It} (h : l[k]? = some X) : countL (l.take k) + X.count = countL (l.take (k + 1)) := by
  have e := congrArg List.length (itsL_take h 0)
  rw [List.length_append, length_itsL, length_itsL, length_its] at e
  exact e.symm
theorem ne_flip {a b : Option Nat} (h : a = none ∨ a ≠ b) : b = none ∨ b ≠ a := by
  rcases h with rfl | h
  · by_cases hb : b = none
    · exact .inl hb
    · exact .inr hb
  · exact .inr fun e => h e.symm
theorem intInfo : (Try.prog.info? 3).map (fun i => (i.zero, i.size, i.bytes)) = some (some (.int .i64 0), 1, 8) := by kernel_rfl
theorem items_step {wr w3 : World} {n B d j : Nat} {l : List It} {x X : It} {dd : Int} {v1 v2 v1' v2' : Value} (hl : l[j]? = some X) (h1 : OwnI wr n B v1 (x :: itsL (l.take j) (d + 1))) (h2 : Own wr B .i64 3 v2 (dd :: depsL (l.take j) (d + 1)))
    (hp : ItemsPost X n (d + 1) wr.heap.size w3 v1' v2') (hb3 : Below wr.heap.size wr w3) (hB : B ≤ wr.heap.size) (hn : n ≤ B) (hs : countL l + 1 ≤ 1099511627776) :
    ∃ v1'' w4 v2'' w5, (Builtin.append_ #[37, 37] 37 #[v1, v1']).run Try.prog w3 = .ok v1'' w4 ∧ (Builtin.append_ #[22, 22] 22 #[v2, v2']).run Try.prog w4 = .ok v2'' w5 ∧
      OwnI w5 n B v1'' (x :: itsL (l.take (j + 1)) (d + 1)) ∧ Own w5 B .i64 3 v2'' (dd :: depsL (l.take (j + 1)) (d + 1)) ∧ Below B wr w5 := by
  have hsz := hb3.size
  have hle : countL (l.take j) + X.count ≤ countL l := by rw [countL_take_succ hl]; exact countL_take_le _ _
  have k1 := h1.keepB hb3 (by omega)
  have k2 := h2.below hb3
  obtain ⟨v1'', w4, r1, o1, b4, g4⟩ := run_append_items (ty := 37) k1 hp.1 (by rw [length_its]; exact count_pos X) (by rw [length_its, List.length_cons, length_itsL]; omega) (by omega) hn
  obtain ⟨cs, q1, _⟩ := k1
  have m2 : Own w4 B .i64 3 v2 (dd :: depsL (l.take j) (d + 1)) := World.ownsRow.kept k2 g4 (ne_flip (own_ne q1 k2))
  have m3 : Own w4 wr.heap.size .i64 3 v2' (deps X (d + 1)) := World.ownsRow.kept hp.2 g4 (ne_flip (own_ne q1 hp.2))
  have hsz4 := b4.size
  obtain ⟨A2, cap2, rfl, c1, c2, c3, c4, c5⟩ := m3.form
  obtain ⟨v2'', w5, r2, o2, b5, g5⟩ := run_append_nums (P := Try.prog) (t := 22) (ty := 22) (bytes := 8) (by kernel_rfl) intInfo (by omega) m2 c5 c3 (by rw [length_deps, List.length_cons, length_depsL]; omega) (by omega)
  have hne : v1''.ownBlock = none ∨ v1''.ownBlock ≠ v2.ownBlock := by obtain ⟨_, q, _⟩ := o1; exact own_ne q m2
  have e1 := itsL_take hl (d + 1)
  have e2 := depsL_take hl (d + 1)
  refine ⟨v1'', w4, v2'', w5, r1, r2, ?_, ?_, ?_⟩
  · rw [e1]
    exact o1.kept g5 (b5.mono hn) hne.symm
  · rw [e2]
    exact o2
  · exact (hb3.mono hB).trans (b4.trans b5)

end Go.Proofs.Ytmihoeholcaokaa

/- The document's Great, Depth. -/
namespace Go.Proofs.Ytmihoeholcaokaa
open Go.RowKit

noncomputable def greatB (x : It) : Bool := overB 80 x || decide (200 < x.count)
end Go.Proofs.Ytmihoeholcaokaa
