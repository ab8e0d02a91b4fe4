
/- Slices of the call's own whose elements are laid by some cells each: stacks. -/
import Derived.Test.YtobolfnokjekcaaOwnC
namespace Go.Proofs.Ytobolfnokjekcaa
open Go.RowKit

def LayG {α : Type} (E : α → List Value → Prop) : List α → List Value → Prop
  | [], cs => cs = []
  | x :: r, cs => ∃ c cs', cs = c ++ cs' ∧ E x c ∧ LayG E r cs'
/-- A slice of the call's own, of elements that E lays by s cells of type e each. -/
def OwnG {α : Type} (E : α → List Value → Prop) (w : World) (B : Nat) (e : TypeId) (s : Nat) (v : Value) (xs : List α) : Prop := ∃ cs, w.ownsRow B e s v xs.length cs ∧ LayG E xs cs
section
variable {α : Type} {E E' : α → List Value → Prop} {w w' : World} {B g cap m s : Nat} {e : TypeId} {v : Value} {x x' : α} {xs ys : List α} {c c' cs cs' : List Value}
theorem LayG.one (h : E x c) : LayG E [x] c := ⟨c, [], by simp, h, rfl⟩
theorem LayG.append : ∀ {xs : List α} {cs : List Value}, LayG E xs cs → LayG E ys cs' → LayG E (xs ++ ys) (cs ++ cs')
  | [], cs, h, k => by cases (show cs = [] from h); exact k
  | x :: r, cs, ⟨c, c', e, h1, h2⟩, k => ⟨c, c' ++ cs', by rw [e, List.append_assoc], h1, LayG.append h2 k⟩
theorem LayG.imp (hE : ∀ x c, E x c → E' x c) : ∀ {xs : List α} {cs : List Value}, LayG E xs cs → LayG E' xs cs
  | [], _, h => h
  | _ :: _, _, ⟨c, c', e, h1, h2⟩ => ⟨c, c', e, hE _ _ h1, LayG.imp hE h2⟩
theorem LayG.length (hE : ∀ x c, E x c → c.length = s) : ∀ {xs : List α} {cs : List Value}, LayG E xs cs → cs.length = xs.length * s
  | [], cs, h => by cases (show cs = [] from h); simp
  | x :: r, cs, ⟨c, c', e, h1, h2⟩ => by
    subst e
    rw [List.length_append, hE _ _ h1, h2.length hE, List.length_cons, Nat.add_mul]
    omega
theorem LayG.snoc : ∀ {xs : List α} {cs : List Value}, LayG E (xs ++ [x]) cs → ∃ c c', cs = c ++ c' ∧ LayG E xs c ∧ E x c'
  | [], cs, ⟨c, c', e, h1, h2⟩ => by
    cases (show c' = [] from h2)
    exact ⟨[], c, by rw [e]; simp, rfl, h1⟩
  | y :: r, cs, ⟨c, c', e, h1, h2⟩ => by
    obtain ⟨d, d', e', h3, h4⟩ := LayG.snoc (xs := r) h2
    exact ⟨c ++ d, d', by rw [e, e', List.append_assoc], ⟨c, d, rfl, h1, h3⟩, h4⟩
theorem OwnG.imp (h : OwnG E w B e s v xs) (hE : ∀ x c, E x c → E' x c) : OwnG E' w B e s v xs := let ⟨cs, h1, h2⟩ := h; ⟨cs, h1, h2.imp hE⟩
theorem OwnG.on (h : OwnG E w B e s v xs) (hb : Below w.heap.size w w') : OwnG E w' B e s v xs := let ⟨cs, h1, h2⟩ := h; ⟨cs, oc_on h1 hb, h2⟩
theorem OwnG.kept (h : OwnG E w B e s v xs) {row : Option Nat} (hg : w.grownBy w' row) (hne : v.ownBlock = none ∨ v.ownBlock ≠ row) : OwnG E w' B e s v xs := let ⟨cs, h1, h2⟩ := h; ⟨cs, h1.kept hg hne, h2⟩
theorem OwnG.less (h : OwnG E w B e s v xs) {B' : Nat} (hB : B' ≤ B) : OwnG E w B' e s v xs := let ⟨cs, h1, h2⟩ := h; ⟨cs, oc_less h1 hB, h2⟩
theorem OwnG.far (h : OwnG E w B e s (.slice (some ⟨g, 0, none⟩) m cap) xs) {p : Addr} (hp : g ≠ p.block) (u : Value) : OwnG E (w.setCell p u) B e s (.slice (some ⟨g, 0, none⟩) m cap) xs := let ⟨cs, h1, h2⟩ := h; ⟨cs, oc_far h1 hp u, h2⟩
theorem OwnG.form (h : OwnG E w B e s v xs) : ∃ A cap, v = .slice A xs.length cap ∧ xs.length ≤ cap ∧ cap ≤ maxLen ∧ (A = none → cap = 0) ∧ (∀ p, A = some p → ∃ g, p = ⟨g, 0, none⟩ ∧ B ≤ g ∧ g < w.heap.size) := let ⟨_, h1, _⟩ := h; oc_form h1
theorem OwnG.head (h : OwnG E w B e s v xs) (hn : 0 < xs.length) : ∃ g cap, v = .slice (some ⟨g, 0, none⟩) xs.length cap ∧ xs.length ≤ cap ∧ cap ≤ maxLen ∧ B ≤ g ∧ g < w.heap.size := let ⟨_, h1, _⟩ := h; oc_head h1 hn
theorem OwnG.nil (E : α → List Value → Prop) (w : World) (B : Nat) (e : TypeId) (s : Nat) : OwnG E w B e s (.slice none 0 0) [] := ⟨[], World.ownsRow_nil w B e s, rfl⟩
/-- A block of one element that has just been made. -/
theorem OwnG.fresh (w : World) (B : Nat) (e : TypeId) (s : Nat) (cells : Array Value) (hx : E x cells.toList) (hc : cells.size = s) (hB : B ≤ w.heap.size) : OwnG E (w.alloc (.cells cells e)) B e s (.slice (some ⟨w.heap.size, 0, none⟩) 1 1) [x] :=
  ⟨cells.toList, oc_new w B e s 1 cells (by omega) hB (by unfold maxLen; omega), LayG.one hx⟩
/-- What lies on top. -/
theorem OwnG.top (h : OwnG E w B e s (.slice (some ⟨g, 0, none⟩) m cap) (xs ++ [x])) (hE : ∀ x c, E x c → c.length = s) : ∃ c, E x c ∧ (∀ i u, c[i]? = some u → w.cell? ⟨g, xs.length * s + i, none⟩ = some u ∧ w.frozen? ⟨g, xs.length * s + i, none⟩ = false) ∧
    OwnG E w B e s (.slice (some ⟨g, 0, none⟩) xs.length cap) xs := by
  obtain ⟨cs, h1, h2⟩ := h
  obtain ⟨c, c', rfl, h3, h4⟩ := h2.snoc
  have hl := h3.length hE
  refine ⟨c', h4, fun i u hu => ?_, c, ?_, h3⟩
  · have hi : i < c'.length := by
      rcases Nat.lt_or_ge i c'.length with h | h
      · exact h
      · rw [List.getElem?_eq_none h] at hu; cases hu
    have hlt : xs.length * s + i < (xs ++ [x]).length * s := by
      rw [hE _ _ h4] at hi
      rw [List.length_append, List.length_singleton, Nat.add_mul, Nat.one_mul]
      omega
    have := oc_cell h1 hlt
    rw [List.getElem?_append_right (by omega), hl, show xs.length * s + i - xs.length * s = i by omega, hu] at this
    exact this
  · have := oc_cut h1 (k := xs.length) (by simp)
    rwa [← hl, List.take_left] at this
/-- What lies on top, of one cell, is written. -/
theorem OwnG.setTop (h : OwnG E w B e 1 (.slice (some ⟨g, 0, none⟩) m cap) (xs ++ [x])) (hE : ∀ x c, E x c → c.length = 1) {u : Value} (hu : E x' [u]) : OwnG E (w.setCell ⟨g, xs.length, none⟩ u) B e 1 (.slice (some ⟨g, 0, none⟩) m cap) (xs ++ [x']) := by
  obtain ⟨cs, h1, h2⟩ := h
  obtain ⟨c, c', rfl, h3, h4⟩ := h2.snoc
  have hl := h3.length hE
  have hc' := hE _ _ h4
  obtain ⟨y, rfl⟩ : ∃ y, c' = [y] := List.length_eq_one_iff.1 hc'
  refine ⟨c ++ [u], ?_, h3.append (LayG.one hu)⟩
  have := oc_put h1 xs.length u
  rw [List.length_append, List.length_singleton] at this ⊢
  rwa [show (c ++ [y]).set xs.length u = c ++ [u] by rw [List.set_append_right _ _ (by omega), show xs.length - c.length = 0 by omega]; rfl] at this
/-- One more is laid on top. -/
theorem OwnG.push {P : Program} {t ty : TypeId} {bytes : Nat} {z : Value} (ht : P.underlying t = some (.slice e)) (hi : (P.info? e).map (fun i => (i.zero, i.size, i.bytes)) = some (some z, s, bytes)) (hzs : z.cells.size = s) (hsz : 0 < s) (hby : bytes ≤ 64)
    (h : OwnG E w B e s v xs) {a : Addr} {k : Nat} (hx : E x c) (hl : c.length = s) (hc : ∀ j u, c[j]? = some u → w.cell? (a.add j) = some u) (h1 : ∀ u ∈ c, u.oneCell' = true) (hb : xs.length + 1 ≤ 1099511627776) (hB : B ≤ w.heap.size) :
    ∃ v' w', (Builtin.append_ #[t, t] ty #[v, .slice (some a) 1 k]).run P w = .ok v' w' ∧ OwnG E w' B e s v' (xs ++ [x]) ∧ Below B w w' ∧ w.grownBy w' v.ownBlock ∧ (v'.ownBlock = v.ownBlock ∨ v'.ownBlock = some w.heap.size) := by
  obtain ⟨cs, o1, l1⟩ := h
  obtain ⟨v', w', r1, r2, r3, r4, r5⟩ := oc_append (P := P) (t := t) (ty := ty) (m := 1) (c := k) (news := c) ht hi hzs hsz hby o1 (by omega) hc h1 hb hB
  exact ⟨v', w', r1, ⟨cs ++ c, by rw [List.length_append, List.length_singleton]; exact r2, l1.append (LayG.one hx)⟩, r3, r4, r5⟩
end
end Go.Proofs.Ytobolfnokjekcaa
