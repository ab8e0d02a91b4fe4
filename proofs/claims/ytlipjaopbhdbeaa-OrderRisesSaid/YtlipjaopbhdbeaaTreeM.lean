
/- Items in memory. -/
import Derived.Test.YtlipjaopbhdbeaaBlk
import Derived.Test.YtlipjaopbhdbeaaTreeP
import Derived.Test.YtlipjaopbhdbeaaCut
namespace Go.Proofs.Ytlipjaopbhdbeaa
open Go.RowKit

mutual
/-- An item's four cells lie at b, o; its items where its list says; all in blocks of S. -/
def At1 (w : World) (S : Nat → Prop) : It → Nat → Nat → Prop
  | .mk k n s l, b, o => ∃ A cap, w.cell? ⟨b, o, none⟩ = some (.int .i64 k) ∧ w.cell? ⟨b, o + 1, none⟩ = some (.int .u64 n) ∧ w.cell? ⟨b, o + 2, none⟩ = some (.string s) ∧
      w.cell? ⟨b, o + 3, none⟩ = some (.slice A l.length cap) ∧ l.length ≤ cap ∧ (A = none → cap = 0) ∧ AtL w S l A
/-- A list of items, one behind the other, from A on. -/
def AtL (w : World) (S : Nat → Prop) : List It → Option Addr → Prop
  | [], _ => True
  | t :: r, A => ∃ b o, A = some ⟨b, o, none⟩ ∧ S b ∧ b < w.heap.size ∧ At1 w S t b o ∧ AtL w S r (some ⟨b, o + 4, none⟩)
end
section
variable {w w' : World} {S S' : Nat → Prop}
theorem At1.parts {t : It} {b o : Nat} (h : At1 w S t b o) : ∃ A cap, w.cell? ⟨b, o, none⟩ = some (.int .i64 t.k) ∧ w.cell? ⟨b, o + 1, none⟩ = some (.int .u64 t.n) ∧ w.cell? ⟨b, o + 2, none⟩ = some (.string t.s) ∧
      w.cell? ⟨b, o + 3, none⟩ = some (.slice A t.l.length cap) ∧ t.l.length ≤ cap ∧ (A = none → cap = 0) ∧ AtL w S t.l A := by
  cases t with | mk k n s l => simpa only [At1, It.k, It.n, It.s, It.l] using h
theorem At1.mk {t : It} {b o : Nat} (A : Option Addr) (cap : Nat) (h0 : w.cell? ⟨b, o, none⟩ = some (.int .i64 t.k)) (h1 : w.cell? ⟨b, o + 1, none⟩ = some (.int .u64 t.n)) (h2 : w.cell? ⟨b, o + 2, none⟩ = some (.string t.s))
    (h3 : w.cell? ⟨b, o + 3, none⟩ = some (.slice A t.l.length cap)) (h4 : t.l.length ≤ cap) (h5 : A = none → cap = 0) (h6 : AtL w S t.l A) : At1 w S t b o := by
  cases t with | mk k n s l => simp only [At1]; exact ⟨A, cap, h0, h1, h2, h3, h4, h5, h6⟩
theorem AtL.nil (A : Option Addr) : AtL w S [] A := by simp [AtL]
theorem AtL.cons {t : It} {r : List It} {A : Option Addr} (h : AtL w S (t :: r) A) : ∃ b o, A = some ⟨b, o, none⟩ ∧ S b ∧ b < w.heap.size ∧ At1 w S t b o ∧ AtL w S r (some ⟨b, o + 4, none⟩) := by simpa only [AtL] using h
theorem AtL.mk {t : It} {r : List It} {b o : Nat} (h1 : S b) (h2 : b < w.heap.size) (h3 : At1 w S t b o) (h4 : AtL w S r (some ⟨b, o + 4, none⟩)) : AtL w S (t :: r) (some ⟨b, o, none⟩) := by
  simp only [AtL]; exact ⟨b, o, rfl, h1, h2, h3, h4⟩
theorem cell_kept' {b o : Nat} {v : Value} (h : w'.heap[b]? = w.heap[b]?) (hc : w.cell? ⟨b, o, none⟩ = some v) : w'.cell? ⟨b, o, none⟩ = some v := by
  rw [World.cell?_of_block (w := w) (a := ⟨b, o, none⟩) h]; exact hc
theorem lt_kept {b : Nat} (h : w'.heap[b]? = w.heap[b]?) (hb : b < w.heap.size) : b < w'.heap.size := by
  have e : w'.heap[b]? = some w.heap[b] := h.trans (Array.getElem?_eq_getElem hb)
  exact (Array.getElem?_eq_some_iff.1 e).1
mutual
theorem At1.keep (hk : ∀ b, S b → b < w.heap.size → w'.heap[b]? = w.heap[b]?) (hS : ∀ b, S b → S' b) : ∀ (t : It) (b o : Nat), S b → b < w.heap.size → At1 w S t b o → At1 w' S' t b o
  | .mk k n s l, b, o, hs, hb, h => by
    simp only [At1] at h ⊢
    obtain ⟨A, cap, h0, h1, h2, h3, h4, h5, h6⟩ := h
    have e := hk b hs hb
    exact ⟨A, cap, cell_kept' e h0, cell_kept' e h1, cell_kept' e h2, cell_kept' e h3, h4, h5, AtL.keep hk hS l A h6⟩
theorem AtL.keep (hk : ∀ b, S b → b < w.heap.size → w'.heap[b]? = w.heap[b]?) (hS : ∀ b, S b → S' b) : ∀ (l : List It) (A : Option Addr), AtL w S l A → AtL w' S' l A
  | [], A, _ => AtL.nil A
  | t :: r, A, h => by
    simp only [AtL] at h ⊢
    obtain ⟨b, o, rfl, h1, h2, h3, h4⟩ := h
    exact ⟨b, o, rfl, hS b h1, lt_kept (hk b h1 h2) h2, At1.keep hk hS t b o h1 h2 h3, AtL.keep hk hS r _ h4⟩
end
/-- What lay below the heap's size lies as it lay. -/
theorem AtL.on {l : List It} {A : Option Addr} (h : AtL w S l A) (hb : Below w.heap.size w w') : AtL w' S l A := AtL.keep (fun b _ hlt => hb.block b hlt) (fun _ h => h) l A h
theorem AtL.alloc {l : List It} {A : Option Addr} (h : AtL w S l A) (ob : Obj) : AtL (w.alloc ob) S l A := h.on (below_alloc w ob)
theorem AtL.drew {l : List It} {A : Option Addr} (h : AtL w S l A) : AtL w.drew S l A := AtL.keep (w := w) (w' := w.drew) (fun _ _ _ => rfl) (fun _ h => h) l A h
theorem AtL.drewN {l : List It} {A : Option Addr} (h : AtL w S l A) (n : Nat) : AtL (w.drewN n) S l A := AtL.keep (w := w) (w' := w.drewN n) (fun _ _ _ => rfl) (fun _ h => h) l A h
theorem AtL.more {l : List It} {A : Option Addr} (h : AtL w S l A) (hS : ∀ b, S b → S' b) : AtL w S' l A := AtL.keep (fun _ _ _ => rfl) hS l A h
theorem AtL.drop {l : List It} {b o : Nat} (h : AtL w S l (some ⟨b, o, none⟩)) : ∀ i, AtL w S (l.drop i) (some ⟨b, o + 4 * i, none⟩) := by
  intro i
  induction i generalizing l o with
  | zero => simpa using h
  | succ i ih =>
    cases l with
    | nil => simpa using AtL.nil _
    | cons t r =>
      obtain ⟨b', o', e, h1, h2, h3, h4⟩ := h.cons
      injection e with e
      injection e with e1 e2 _
      subst e1; subst e2
      have := ih h4
      rw [show o + 4 * (i + 1) = o + 4 + 4 * i by omega]
      simpa using this
/-- Item number i. -/
theorem AtL.get {l : List It} {A : Option Addr} (h : AtL w S l A) {i : Nat} (hi : i < l.length) : ∃ b o, A = some ⟨b, o, none⟩ ∧ S b ∧ b < w.heap.size ∧ At1 w S l[i] b (o + 4 * i) ∧ AtL w S (l.drop (i + 1)) (some ⟨b, o + 4 * (i + 1), none⟩) := by
  have hne : l ≠ [] := fun e => by subst e; simp at hi
  obtain ⟨t, r, rfl⟩ : ∃ t r, l = t :: r := by cases l with
    | nil => exact absurd rfl hne
    | cons t r => exact ⟨t, r, rfl⟩
  obtain ⟨b, o, rfl, h1, h2, h3, h4⟩ := h.cons
  have hd := AtL.drop (i := i) (AtL.mk h1 h2 h3 h4)
  rw [List.drop_eq_getElem_cons hi] at hd
  obtain ⟨b', o', e, g1, g2, g3, g4⟩ := hd.cons
  injection e with e
  injection e with e1 e2 _
  subst e1; subst e2
  exact ⟨b, o, rfl, g1, g2, g3, g4⟩
/-- The list without its first n: where it lies. -/
def cutI (A : Option Addr) (n cap : Nat) : Option Addr := if cap = n then A else A.map (·.add (n * 4))
theorem AtL.cut {l : List It} {A : Option Addr} (h : AtL w S l A) (n : Nat) {cap : Nat} (hc : l.length ≤ cap) : AtL w S (l.drop n) (cutI A n cap) := by
  unfold cutI
  by_cases hn : n < l.length
  · rw [if_neg (by omega)]
    obtain ⟨b, o, rfl, _⟩ := h.get hn
    have := h.drop n
    rw [Option.map_some, Addr.add_mid, Nat.mul_comm n 4]
    exact this
  · rw [List.drop_of_length_le (by omega)]; exact AtL.nil _
end
end Go.Proofs.Ytlipjaopbhdbeaa
