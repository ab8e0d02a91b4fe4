/- Items in memory. -/
import Derived.Test.YtgcgidoikpbfpaaGreatKAB
import Derived.Test.YtgcgidoikpbfpaaGreatKAP
import Derived.Test.YtgcgidoikpbfpaaGreatKAL
import Derived.Lib.Bytealg
import Derived.Test.YtgcgidoikpbfpaaGreatChecked
import Derived.Maps.AppendAt
import Derived.Lib.QuietBelow
import Derived.Test.YtgcgidoikpbfpaaGreatKAM
import Derived.Deep.QuietTactic
namespace Go.Proofs.YtgcgidoikpbfpaaGreat
open Go.RowKit

mutual
/-- An item's four cells lie at b, o; its items where its list says; all in blocks of S. -/
def At1 (w : World) (S : Nat → Prop) : It → Nat → Nat → Prop
  | .mk k n s l, b, o => ∃ A cap, w.cell? ⟨b, o, none⟩ = some (.int .i64 k) ∧ w.cell? ⟨b, o + 1, none⟩ = some (.int .u64 n) ∧ w.cell? ⟨b, o + 2, none⟩ = some (.string s) ∧
      w.cell? ⟨b, o + 3, none⟩ = some (.slice A l.length cap) ∧ l.length ≤ cap ∧ (A = none → cap = 0) ∧ AtL w S l A
/-- A list of items, one behind the other, from A on. -/
def AtL (w : World) (S : Nat → Prop) : List It → Option Addr → Prop
  | [], _ => True
  | t :: r, A => ∃ b o, A = some ⟨b, o, none⟩ ∧ S b ∧ b < w.heap.size ∧ At1 w S t b o ∧ AtL w S r (some ⟨b, o + 4, none⟩)
end
section
variable {w w' : World} {S S' : Nat → Prop}
theorem At1.parts {t : It} {b o : Nat} (h : At1 w S t b o) : ∃ A cap, w.cell? ⟨b, o, none⟩ = some (.int .i64 t.k) ∧ w.cell? ⟨b, o + 1, none⟩ = some (.int .u64 t.n) ∧ w.cell? ⟨b, o + 2, none⟩ = some (.string t.s) ∧
      w.cell? ⟨b, o + 3, none⟩ = some (.slice A t.l.length cap) ∧ t.l.length ≤ cap ∧ (A = none → cap = 0) ∧ AtL w S t.l A := by
  cases t with | mk k n s l => simpa only [At1, It.k, It.n, It.s, It.l] using h
theorem At1.mk {t : It} {b o : Nat} (A : Option Addr) (cap : Nat) (h0 : w.cell? ⟨b, o, none⟩ = some (.int .i64 t.k)) (h1 : w.cell? ⟨b, o + 1, none⟩ = some (.int .u64 t.n)) (h2 : w.cell? ⟨b, o + 2, none⟩ = some (.string t.s))
    (h3 : w.cell? ⟨b, o + 3, none⟩ = some (.slice A t.l.length cap)) (h4 : t.l.length ≤ cap) (h5 : A = none → cap = 0) (h6 : AtL w S t.l A) : At1 w S t b o := by
  cases t with | mk k n s l => simp only [At1]; exact ⟨A, cap, h0, h1, h2, h3, h4, h5, h6⟩
theorem AtL.nil (A : Option Addr) : AtL w S [] A := by simp [AtL]
theorem AtL.cons {t : It} {r : List It} {A : Option Addr} (h : AtL w S (t :: r) A) : ∃ b o, A = some ⟨b, o, none⟩ ∧ S b ∧ b < w.heap.size ∧ At1 w S t b o ∧ AtL w S r (some ⟨b, o + 4, none⟩) := by simpa only [AtL] using h
theorem AtL.mk {t : It} {r : List It} {b o : Nat} (h1 : S b) (h2 : b < w.heap.size) (h3 : At1 w S t b o) (h4 : AtL w S r (some ⟨b, o + 4, none⟩)) : AtL w S (t :: r) (some ⟨b, o, none⟩) := by
  simp only [AtL]; exact ⟨b, o, rfl, h1, h2, h3, h4⟩
theorem cell_kept' {b o : Nat} {v : Value} (h : w'.heap[b]? = w.heap[b]?) (hc : w.cell? ⟨b, o, none⟩ = some v) : w'.cell? ⟨b, o, none⟩ = some v := by
  rw [World.cell?_of_block (w := w) (a := ⟨b, o, none⟩) h]; exact hc
theorem lt_kept {b : Nat} (h : w'.heap[b]? = w.heap[b]?) (hb : b < w.heap.size) : b < w'.heap.size := by
  have e : w'.heap[b]? = some w.heap[b] := h.trans (Array.getElem?_eq_getElem hb)
  exact (Array.getElem?_eq_some_iff.1 e).1
mutual
theorem At1.keep (hk : ∀ b, S b → b < w.heap.size → w'.heap[b]? = w.heap[b]?) (hS : ∀ b, S b → S' b) : ∀ (t : It) (b o : Nat), S b → b < w.heap.size → At1 w S t b o → At1 w' S' t b o
  | .mk k n s l, b, o, hs, hb, h => by
    simp only [At1] at h ⊢
    obtain ⟨A, cap, h0, h1, h2, h3, h4, h5, h6⟩ := h
    have e := hk b hs hb
    exact ⟨A, cap, cell_kept' e h0, cell_kept' e h1, cell_kept' e h2, cell_kept' e h3, h4, h5, AtL.keep hk hS l A h6⟩
theorem AtL.keep (hk : ∀ b, S b → b < w.heap.size → w'.heap[b]? = w.heap[b]?) (hS : ∀ b, S b → S' b) : ∀ (l : List It) (A : Option Addr), AtL w S l A → AtL w' S' l A
  | [], A, _ => AtL.nil A
  | t :: r, A, h => by
    simp only [AtL] at h ⊢
    obtain ⟨b, o, rfl, h1, h2, h3, h4⟩ := h
    exact ⟨b, o, rfl, hS b h1, lt_kept (hk b h1 h2) h2, At1.keep hk hS t b o h1 h2 h3, AtL.keep hk hS r _ h4⟩
end
/-- What lay below the heap's size lies as it lay. -/
theorem AtL.on {l : List It} {A : Option Addr} (h : AtL w S l A) (hb : Below w.heap.size w w') : AtL w' S l A := AtL.keep (fun b _ hlt => hb.block b hlt) (fun _ h => h) l A h
theorem AtL.alloc {l : List It} {A : Option Addr} (h : AtL w S l A) (ob : Obj) : AtL (w.alloc ob) S l A := h.on (below_alloc w ob)
theorem AtL.drew {l : List It} {A : Option Addr} (h : AtL w S l A) : AtL w.drew S l A := AtL.keep (w := w) (w' := w.drew) (fun _ _ _ => rfl) (fun _ h => h) l A h
theorem AtL.drewN {l : List It} {A : Option Addr} (h : AtL w S l A) (n : Nat) : AtL (w.drewN n) S l A := AtL.keep (w := w) (w' := w.drewN n) (fun _ _ _ => rfl) (fun _ h => h) l A h
theorem AtL.more {l : List It} {A : Option Addr} (h : AtL w S l A) (hS : ∀ b, S b → S' b) : AtL w S' l A := AtL.keep (fun _ _ _ => rfl) hS l A h
theorem AtL.drop {l : List It} {b o : Nat} (h : AtL w S l (some ⟨b, o, none⟩)) : ∀ i, AtL w S (l.drop i) (some ⟨b, o + 4 * i, none⟩) := by
  intro i
  induction i generalizing l o with
  | zero => simpa using h
  | succ i ih =>
    cases l with
    | nil => simpa using AtL.nil _
    | cons t r =>
      obtain ⟨b', o', e, h1, h2, h3, h4⟩ := h.cons
      injection e with e
      injection e with e1 e2 _
      subst e1; subst e2
      have := ih h4
      rw [show o + 4 * (i + 1) = o + 4 + 4 * i by omega]
      simpa using this
/-- Item number i. -/
theorem AtL.get {l : List It} {A : Option Addr} (h : AtL w S l A) {i : Nat} (hi : i < l.length) : ∃ b o, A = some ⟨b, o, none⟩ ∧ S b ∧ b < w.heap.size ∧ At1 w S l[i] b (o + 4 * i) ∧ AtL w S (l.drop (i + 1)) (some ⟨b, o + 4 * (i + 1), none⟩) := by
  have hne : l ≠ [] := fun e => by subst e; simp at hi
  obtain ⟨t, r, rfl⟩ : ∃ t r, l = t :: r := by cases l with
    | nil => exact absurd rfl hne
    | cons t r => exact ⟨t, r, rfl⟩
  obtain ⟨b, o, rfl, h1, h2, h3, h4⟩ := h.cons
  have hd := AtL.drop (i := i) (AtL.mk h1 h2 h3 h4)
  rw [List.drop_eq_getElem_cons hi] at hd
  obtain ⟨b', o', e, g1, g2, g3, g4⟩ := hd.cons
  injection e with e
  injection e with e1 e2 _
  subst e1; subst e2
  exact ⟨b, o, rfl, g1, g2, g3, g4⟩
/-- The list without its first n: where it lies. -/
def cutI (A : Option Addr) (n cap : Nat) : Option Addr := if cap = n then A else A.map (·.add (n * 4))
theorem AtL.cut {l : List It} {A : Option Addr} (h : AtL w S l A) (n : Nat) {cap : Nat} (hc : l.length ≤ cap) : AtL w S (l.drop n) (cutI A n cap) := by
  unfold cutI
  by_cases hn : n < l.length
  · rw [if_neg (by omega)]
    obtain ⟨b, o, rfl, _⟩ := h.get hn
    have := h.drop n
    rw [Option.map_some, Addr.add_mid, Nat.mul_comm n 4]
    exact this
  · rw [List.drop_of_length_le (by omega)]; exact AtL.nil _
end
end Go.Proofs.YtgcgidoikpbfpaaGreat

/- Numbers and texts held against each other; the first that isn't 0. -/
namespace Go.Proofs.YtgcgidoikpbfpaaGreat
open Go.RowKit

theorem ByteArray.toNat_list (a : UInt8) : ((a.toNat : Int)) = ((a.toNat : Nat) : Int) := rfl
theorem textC_bytes : ∀ (a b : List UInt8), seqC intC (a.map fun c => (c.toNat : Int)) (b.map fun c => (c.toNat : Int)) = Lib.compareBytes a b := by
  intro a
  induction a with
  | nil => intro b; cases b <;> simp [seqC, Lib.compareBytes]
  | cons x a ih =>
    intro b
    cases b with
    | nil => simp [seqC, Lib.compareBytes]
    | cons y b =>
      simp only [List.map_cons, seqC, Lib.compareBytes, ih b]
      unfold intC
      have h1 : (x < y) ↔ (x.toNat : Int) < (y.toNat : Int) := by rw [UInt8.lt_iff_toNat_lt]; omega
      have h2 : (y < x) ↔ (y.toNat : Int) < (x.toNat : Int) := by rw [UInt8.lt_iff_toNat_lt]; omega
      by_cases p : x < y
      · rw [if_pos (h1.1 p), if_pos p]; rfl
      · rw [if_neg (fun h => p (h1.2 h)), if_neg p]
        by_cases q : y < x
        · rw [if_pos (h2.1 q), if_pos q]; rfl
        · rw [if_neg (fun h => q (h2.2 h)), if_neg q]; rfl
theorem textC_eq (a b : ByteArray) : textC a b = Lib.compareBytes a.data.toList b.data.toList := textC_bytes _ _

theorem cmp_int (a b : Int) (w : World) : Calls Tryz.prog 79 #[.int .i64 a, .int .i64 b] w fun e w' => e = .returned (.int .i64 (intC a b)) ∧ w' = w := by
  unfold intC
  by_cases h1 : a < b
  · rw [if_pos h1]
    go_enter Tryz.func79, Tryz.ntmps79
    go_wp2
    go_ret
    exact ⟨rfl, rfl⟩
  · rw [if_neg h1]
    by_cases h2 : b < a
    · rw [if_pos h2]
      go_enter Tryz.func79, Tryz.ntmps79
      go_wp2
      go_ret
      exact ⟨rfl, rfl⟩
    · rw [if_neg h2]
      go_enter Tryz.func79, Tryz.ntmps79
      go_wp2
      go_ret
      exact ⟨rfl, rfl⟩
theorem cmp_u64 (a b : Int) (w : World) : Calls Tryz.prog 80 #[.int .u64 a, .int .u64 b] w fun e w' => e = .returned (.int .i64 (intC a b)) ∧ w' = w := by
  unfold intC
  by_cases h1 : a < b
  · rw [if_pos h1]
    go_enter Tryz.func80, Tryz.ntmps80
    go_wp2
    go_ret
    exact ⟨rfl, rfl⟩
  · rw [if_neg h1]
    by_cases h2 : b < a
    · rw [if_pos h2]
      go_enter Tryz.func80, Tryz.ntmps80
      go_wp2
      go_ret
      exact ⟨rfl, rfl⟩
    · rw [if_neg h2]
      go_enter Tryz.func80, Tryz.ntmps80
      go_wp2
      go_ret
      exact ⟨rfl, rfl⟩
set_option maxRecDepth 100000 in
theorem cmp_string (a b : ByteArray) (w : World) : Calls Tryz.prog 96 #[.string a, .string b] w fun e w' => e = .returned (.int .i64 (textC a b)) ∧ w' = w := by
  rw [textC_eq]
  go_enter Tryz.func96, Tryz.ntmps96
  go_wp2
  rw [run_callFunc_extern Tryz.func103 (by kernel_rfl) (by kernel_rfl) (by kernel_rfl) (e := Extern.BytealgCompare.compare) (by kernel_rfl), Lib.run_compareString]
  simp only [Result.andThen]
  rw [Oper.upon_value]
  go_wp2
  go_ret
  exact ⟨rfl, rfl⟩
theorem strings_compare (a b : ByteArray) (w : World) : Calls Tryz.prog 81 #[.string a, .string b] w fun e w' => e = .returned (.int .i64 (textC a b)) ∧ w' = w := by
  go_enter Tryz.func81, Tryz.ntmps81
  go_wp2_with (go_at_call 96; refine (cmp_string _ _ _).mono ?_; rintro e w' ⟨rfl, rfl⟩)
  go_ret
  exact ⟨rfl, rfl⟩

def orC (a b c d : Int) : Int := if a ≠ 0 then a else if b ≠ 0 then b else if c ≠ 0 then c else d
theorem oneC_or (x y : It) : oneC x y = orC (intC x.k y.k) (intC x.n y.n) (intC x.l.length y.l.length) (textC x.s y.s) := by
  unfold oneC thenC orC
  rfl
theorem orC_at {a b c d x : Int} {k : Nat} (hk : k < 4) (hz : ∀ j, j < k → [a, b, c, d].getD j 0 = 0) (hx : [a, b, c, d].getD k 0 = x) (h : x ≠ 0) : orC a b c d = x := by
  unfold orC
  have z0 := hz 0
  have z1 := hz 1
  have z2 := hz 2
  rcases (by omega : k = 0 ∨ k = 1 ∨ k = 2 ∨ k = 3) with rfl | rfl | rfl | rfl <;> simp_all
theorem orC_none {a b c d : Int} (hz : ∀ j, j < 4 → [a, b, c, d].getD j 0 = 0) : orC a b c d = 0 := by
  have z0 := hz 0 (by omega)
  have z1 := hz 1 (by omega)
  have z2 := hz 2 (by omega)
  have z3 := hz 3 (by omega)
  clear hz
  unfold orC
  simp_all
set_option maxHeartbeats 1000000 in
theorem cmp_or (a b c d : Int) (w : World) (g : Nat) (hc : ∀ i, i < 4 → w.cell? ⟨g, i, none⟩ = some (.int .i64 ([a, b, c, d].getD i 0))) :
    Calls Tryz.prog 78 #[.slice (some ⟨g, 0, none⟩) 4 4] w fun e w' => e = .returned (.int .i64 (orC a b c d)) ∧ w' = w := by
  have HC := Lib.hid hc
  clear hc
  go_enter Tryz.func78, Tryz.ntmps78
  go_wp2_with fail
  go_loopw [5, 8] (fun v i wr => ∃ k : Nat, k ≤ 4 ∧ i = .int .i64 (k : Int) ∧ wr = w ∧ (∀ j, j < k → [a, b, c, d].getD j 0 = 0)) (fun _ i _ => 4 - (intOf i).toNat)
  case atStart => exact ⟨0, by omega, rfl, rfl, by omega⟩
  case round =>
    obtain ⟨k, hk, rfl, rfl, hz⟩ := hrel
    by_cases hlt : k < 4
    · obtain ⟨x, hx⟩ : ∃ x, [a, b, c, d].getD k 0 = x := ⟨_, rfl⟩
      have hcell := HC.out k hlt
      rw [hx] at hcell
      have HZ := Lib.hid hz
      have HX := Lib.hid hx
      clear hz hx
      by_cases h0 : x = 0
      · subst h0
        go_wp2
        go_roundw
        case rel => exact ⟨k + 1, by omega, by simp, trivial, fun j hj => by
          by_cases e : j = k
          · subst e; exact HX.out
          · exact HZ.out j (by omega)⟩
        case measure => simp [intOf]; omega
      · have h0' : (x != 0) = true := by simp [h0]
        have HR : RowKit.Hid (orC a b c d = x) := Lib.hid (orC_at hlt HZ.out HX.out h0)
        go_wp2
        go_ret
        exact ⟨by rw [HR.out]; rfl, rfl⟩
    · obtain rfl : k = 4 := by omega
      have HR : RowKit.Hid (orC a b c d = 0) := Lib.hid (orC_none hz)
      clear hz
      go_wp2
      go_ret
      exact ⟨by rw [HR.out]; rfl, rfl⟩
end Go.Proofs.YtgcgidoikpbfpaaGreat

/- Slices of the call's own whose elements are several cells, or no numbers. -/
namespace Go.Proofs.YtgcgidoikpbfpaaGreat
open Go.RowKit
section
variable {w w' : World} {B g m n cap s j : Nat} {e : TypeId} {v : Value} {cs : List Value}
theorem oc_head (h : w.ownsRow B e s v n cs) (hn : 0 < n) : ∃ g cap, v = .slice (some ⟨g, 0, none⟩) n cap ∧ n ≤ cap ∧ cap ≤ maxLen ∧ B ≤ g ∧ g < w.heap.size := by
  rcases h.2 with ⟨_, hz⟩ | ⟨g, cap, cur, rfl, hg, hh, hn, hc, hs, ht⟩
  · omega
  · exact ⟨g, cap, rfl, hn, hc, hg, (Array.getElem?_eq_some_iff.1 hh).1⟩
/-- Its value. -/
theorem oc_form (h : w.ownsRow B e s v n cs) : ∃ A cap, v = .slice A n cap ∧ n ≤ cap ∧ cap ≤ maxLen ∧ (A = none → cap = 0) ∧ (∀ p, A = some p → ∃ g, p = ⟨g, 0, none⟩ ∧ B ≤ g ∧ g < w.heap.size) := by
  rcases h.2 with ⟨rfl, hz⟩ | ⟨g, cap, cur, rfl, hg, hh, hn, hc, hs, ht⟩
  · exact ⟨none, 0, by rw [hz], by omega, by unfold maxLen; omega, fun _ => rfl, fun p hp => by cases hp⟩
  · exact ⟨some ⟨g, 0, none⟩, cap, rfl, hn, hc, (fun h => by cases h), fun p hp => ⟨g, by injection hp with hp; exact hp.symm, hg, (Array.getElem?_eq_some_iff.1 hh).1⟩⟩
theorem oc_blk (h : w.ownsRow B e s (.slice (some ⟨g, 0, none⟩) m cap) n cs) : ∃ cur, Blk w g e cur ∧ B ≤ g ∧ n ≤ cap ∧ m = n ∧ cur.size = cap * s ∧ cur.toList.take (n * s) = cs := by
  rcases h.2 with ⟨hz, _⟩ | ⟨g', cap', cur, hv, hg, hh, hn, hc, hs, ht⟩
  · cases hz
  · injection hv with e1 e2 e3
    injection e1 with e1
    injection e1 with e1
    subst e1 e2 e3
    exact ⟨cur, hh, hg, hn, rfl, hs, ht⟩
theorem oc_cell (h : w.ownsRow B e s (.slice (some ⟨g, 0, none⟩) m cap) n cs) (hj : j < n * s) : w.cell? ⟨g, j, none⟩ = cs[j]? ∧ w.frozen? ⟨g, j, none⟩ = false := by
  obtain ⟨cur, hb, _, _, _, hs, ht⟩ := oc_blk h
  refine ⟨?_, hb.free j⟩
  rw [hb.cell, ← ht, List.getElem?_take, if_pos hj]
  simp
theorem oc_put (h : w.ownsRow B e s (.slice (some ⟨g, 0, none⟩) m cap) n cs) (j : Nat) (u : Value) : (w.setCell ⟨g, j, none⟩ u).ownsRow B e s (.slice (some ⟨g, 0, none⟩) m cap) n (cs.set j u) := by
  have hl := h.1
  rcases h.2 with ⟨hz, _⟩ | ⟨g', cap', cur, hv, hg, hh, hn, hc, hs, ht⟩
  · cases hz
  · injection hv with e1 e2 e3
    injection e1 with e1
    injection e1 with e1
    subst e1 e2 e3
    have hb : Blk w g e cur := hh
    exact ⟨by simpa using hl, .inr ⟨g, cap, cur.setIfInBounds j u, rfl, hg, hb.put j u, hn, hc, by simpa using hs, by rw [Array.toList_setIfInBounds, List.take_set, ht]⟩⟩
theorem oc_keep (h : w.ownsRow B e s v n cs) (hb : ∀ i, B ≤ i → i < w.heap.size → w'.heap[i]? = w.heap[i]?) : w'.ownsRow B e s v n cs := by
  obtain ⟨h1, h2⟩ := h
  refine ⟨h1, ?_⟩
  rcases h2 with h2 | ⟨g, cap, cur, hv, hg, hh, r⟩
  · exact .inl h2
  · exact .inr ⟨g, cap, cur, hv, hg, by rw [hb g hg (Array.getElem?_eq_some_iff.1 hh).1]; exact hh, r⟩
theorem oc_on (h : w.ownsRow B e s v n cs) (hb : Below w.heap.size w w') : w'.ownsRow B e s v n cs := oc_keep h fun i _ hi => hb.block i hi
theorem oc_alloc (h : w.ownsRow B e s v n cs) (ob : Obj) : (w.alloc ob).ownsRow B e s v n cs := oc_on h (below_alloc w ob)
theorem oc_drewN (h : w.ownsRow B e s v n cs) (k : Nat) : (w.drewN k).ownsRow B e s v n cs := h
theorem oc_less (h : w.ownsRow B e s v n cs) {B' : Nat} (hB : B' ≤ B) : w.ownsRow B' e s v n cs := by
  obtain ⟨h1, h2⟩ := h
  refine ⟨h1, ?_⟩
  rcases h2 with h2 | ⟨g, cap, cur, hv, hg, r⟩
  · exact .inl h2
  · exact .inr ⟨g, cap, cur, hv, by omega, r⟩
/-- Another block turns. -/
theorem oc_far (h : w.ownsRow B e s (.slice (some ⟨g, 0, none⟩) m cap) n cs) {p : Addr} (hp : g ≠ p.block) (u : Value) : (w.setCell p u).ownsRow B e s (.slice (some ⟨g, 0, none⟩) m cap) n cs := by
  have hl := h.1
  rcases h.2 with ⟨hz, _⟩ | ⟨g', cap', cur, hv, hg, hh, r⟩
  · cases hz
  · have hv' := hv
    injection hv with e1 e2 e3
    injection e1 with e1
    injection e1 with e1
    subst e1
    exact ⟨hl, .inr ⟨g, cap', cur, hv', hg, (Below.heap_setCell w p u g hp).trans hh, r⟩⟩
theorem oc_cut (h : w.ownsRow B e s (.slice (some ⟨g, 0, none⟩) m cap) n cs) {k : Nat} (hk : k ≤ n) : w.ownsRow B e s (.slice (some ⟨g, 0, none⟩) k cap) k (cs.take (k * s)) := by
  have hl := h.1
  have hks : k * s ≤ n * s := Nat.mul_le_mul_right s hk
  rcases h.2 with ⟨hz, _⟩ | ⟨g', cap', cur, hv, hg, hh, hn, hc, hs, ht⟩
  · cases hz
  · injection hv with e1 e2 e3
    injection e1 with e1
    injection e1 with e1
    subst e1 e2 e3
    refine ⟨by rw [List.length_take]; omega, .inr ⟨g, cap, cur, rfl, hg, hh, by omega, hc, hs, ?_⟩⟩
    rw [← ht, List.take_take, Nat.min_eq_left hks]
/-- A block that has just been made. -/
theorem oc_new (w : World) (B : Nat) (e : TypeId) (s n : Nat) (cells : Array Value) (hc : cells.size = n * s) (hB : B ≤ w.heap.size) (hn : n ≤ maxLen) : (w.alloc (.cells cells e)).ownsRow B e s (.slice (some ⟨w.heap.size, 0, none⟩) n n) n cells.toList := by
  refine ⟨by simpa using hc, .inr ⟨w.heap.size, n, cells, rfl, hB, Blk.fresh w e cells, Nat.le_refl _, hn, hc, ?_⟩⟩
  rw [← hc]
  exact List.take_of_length_le (by simp)
/-- What an append to it leaves as it was. -/
theorem oc_grown (h : w.ownsRow B e s v n cs) (hg : w.grownBy w' v.ownBlock) (hs : B ≤ w.heap.size) : Below B w w' := by
  refine ⟨hg.os, hg.tape, hg.output, hg.size, fun i hi => hg.block i (by omega) ?_⟩
  rcases h.2 with ⟨rfl, _⟩ | ⟨g, cap, cur, rfl, hB, hh, _⟩
  · simp [Value.ownBlock]
  · simp [Value.ownBlock]; omega
end
section
variable {P : Program}
theorem oc_append {w : World} {B : Nat} {t ty e : TypeId} {s bytes : Nat} {v z : Value} {n m c : Nat} {cs news : List Value} {a : Addr} (ht : P.underlying t = some (.slice e))
    (hi : (P.info? e).map (fun i => (i.zero, i.size, i.bytes)) = some (some z, s, bytes)) (hzs : z.cells.size = s) (hsz : 0 < s) (hby : bytes ≤ 64)
    (hown : w.ownsRow B e s v n cs) (hl : news.length = m * s) (hc : ∀ j u, news[j]? = some u → w.cell? (a.add j) = some u) (h1 : ∀ u ∈ news, u.oneCell' = true) (hb : n + m ≤ 1099511627776) (hB : B ≤ w.heap.size) :
    ∃ v' w', (Builtin.append_ #[t, t] ty #[v, .slice (some a) m c]).run P w = .ok v' w' ∧ w'.ownsRow B e s v' (n + m) (cs ++ news) ∧ Below B w w' ∧ w.grownBy w' v.ownBlock ∧ (v'.ownBlock = v.ownBlock ∨ v'.ownBlock = some w.heap.size) := by
  obtain ⟨i, hi0, hz0, hz1, hz2⟩ := info_parts hi
  have hm : (n + m) * bytes ≤ 140737488355328 := Nat.le_trans (Nat.mul_le_mul hb hby) (by omega : 1099511627776 * 64 ≤ 140737488355328)
  obtain ⟨v', w', h2, h3, h4, _, h5⟩ := run_append_own_at (P := P) w B t ty e i z s bytes ht hi0 hz0 hz1 hz2 hzs hsz v n cs hown a m c news hl hc h1 (by unfold maxLen; omega) hm hB
  exact ⟨v', w', h2, h3, oc_grown hown h4 hB, h4, h5⟩
theorem size_run {elem : TypeId} {sz : Nat} (hs : (P.info? elem).map (·.size) = some sz) (w : World) : (sizeOf elem).run P w = .ok sz w := by
  cases hq : P.info? elem with
  | none => simp [hq] at hs
  | some i =>
    have : i.size = sz := by simpa [hq] using hs
    simp [sizeOf, typeInfo, hq, this]
/-- s[:m] -/
theorem run_less {t elem : TypeId} {sz : Nat} (hu : P.underlying t = some (.slice elem)) (hs : (P.info? elem).map (·.size) = some sz) (w : World) (g len cap m : Nat) (mi : Int) (hmi : mi = m) (hm : m ≤ cap) :
    (Instr.sliceAt t (.slice (some ⟨g, 0, none⟩) len cap) none (some (.int .i64 mi)) none).run P w = .ok (.slice (some ⟨g, 0, none⟩) m cap) w := by
  subst hmi
  have he : P.elem t = elem := by simp [Program.elem, hu]
  rw [run_sliceAt_slice w t _ _ _ _ (by rw [he]; exact hu), run_slice_h w t _ len cap (by rw [he]; exact hu) .i64 m (by omega) (by omega), he, size_run hs]
  simp [sliced, Addr.add_mid]
/-- s[n:] -/
theorem run_cutK {t elem : TypeId} {sz : Nat} (hu : P.underlying t = some (.slice elem)) (hs : (P.info? elem).map (·.size) = some sz) (w : World) (A : Option Addr) (len cap n : Nat) (ni : Int) (hni : ni = n) (hn : n ≤ len) :
    (Instr.sliceAt t (.slice A len cap) (some (.int .i64 ni)) none none).run P w = .ok (.slice (if cap = n then A else A.map (·.add (n * sz))) (len - n) (cap - n)) w := by
  subst hni
  have he : P.elem t = elem := by simp [Program.elem, hu]
  rw [run_sliceAt_slice w t _ _ _ _ (by rw [he]; exact hu), run_slice_l w t A len cap (by rw [he]; exact hu) .i64 n (by omega) (by omega), he, size_run hs]
  simp [sliced]
end
end Go.Proofs.YtgcgidoikpbfpaaGreat

/- Below, with the count of draws: it never goes down. -/
namespace Go.Proofs.YtgcgidoikpbfpaaGreat
open Go.RowKit Go.Sort

theorem viewStore_drawn {P : Program} {w w' : World} {at_ : Addr} {u : TypeId} {k : Addr} {v : Value} {m : Bool} {l : List Addr} (h : w.viewStore P at_ u k v m = .ok (w', l)) : w'.drawn = w.drawn := by
  unfold World.viewStore at h
  simp only [bind, Except.bind, pure, Except.pure] at h
  repeat' (first | (split at h) | (cases h; rfl) | (cases h))
theorem farStore_drawn {P : Program} {w w' : World} {a : Addr} {v : Value} {m : Bool} {l : List Addr} (h : w.farStore P a v m = .ok (w', l)) : w'.drawn = w.drawn := by
  unfold World.farStore at h
  split at h
  · split at h
    · rename_i r hr
      cases h
      exact viewStore_drawn hr
    · cases h
  · cases h
theorem ask_drawn {α : Type} : ∀ (a : Ask α) (w : World), w.drawn ≤ (w.ask a).2.drawn
  | .done _, w => by simp [World.ask]
  | .ask what range k, w => by
    rw [World.ask]
    split
    · exact ask_drawn _ _
    · exact Nat.le_trans (Nat.le_succ _) (ask_drawn _ { w with drawn := w.drawn + 1 })
theorem sys_drawn (w : World) (c : Sys) : w.drawn ≤ (w.sys c).2.drawn := by
  unfold World.sys
  have := ask_drawn (Kernel.perform c w.os) w
  split
  · exact Nat.le_refl _
  · rename_i h
    rw [h] at this
    exact this
/-- No run lowers the count of draws. -/
theorem run_drawn {α : Type} {P : Program} : ∀ (s : Sem α) {w w' : World} {a : α}, s.run P w = .ok a w' → w.drawn ≤ w'.drawn := by
  intro s
  induction s with
  | pure a => intro w w' b h; cases h; exact Nat.le_refl _
  | load m a k ih =>
    intro w w' b h
    rw [Sem.run] at h
    split at h
    · exact ih _ h
    · split at h
      · exact ih _ h
      · cases h
  | store m a v k ih =>
    intro w w' b h
    rw [Sem.run.eq_def] at h
    split at h <;> first | contradiction | (rename_i heq; cases heq)
    split at h
    · split at h
      · cases h
      · have := ih h
        exact this
    · split at h
      · rename_i e
        have h1 := ih h
        rw [farStore_drawn e] at h1
        exact h1
      · cases h
  | new o k ih => intro w w' b h; rw [Sem.run] at h; have := ih _ h; exact this
  | shape r k ih => intro w w' b h; rw [Sem.run] at h; exact ih _ h
  | freeze a n k ih =>
    intro w w' b h
    rw [Sem.run] at h
    have := ih h
    unfold World.freeze at this
    split at this <;> exact this
  | frozen a k ih => intro w w' b h; rw [Sem.run] at h; exact ih _ h
  | getObj r k ih =>
    intro w w' b h
    rw [Sem.run] at h
    split at h
    · cases h
    · exact ih _ h
    · cases h
  | setObj r o k ih =>
    intro w w' b h
    rw [Sem.run] at h
    split at h
    · cases h
    · have := ih h
      exact this
    · cases h
  | choose q k ih =>
    intro w w' b h
    rw [Sem.run] at h
    split at h
    · exact ih _ h
    · have := ih _ h
      exact Nat.le_trans (Nat.le_succ _) this
  | sys c k ih => intro w w' b h; rw [Sem.run] at h; exact Nat.le_trans (sys_drawn w c) (ih _ h)
  | program k ih => intro w w' b h; rw [Sem.run] at h; exact ih _ h
  | mark m k ih => intro w w' b h; rw [Sem.run] at h; exact ih h
  | halt e => intro w w' b h; cases h

/-- Below block number B the world is as it was, and no draw is taken back. -/
structure Bel (B : Nat) (w w' : World) : Prop extends Below B w w' where
  dr : w.drawn ≤ w'.drawn
section
variable {B B' : Nat} {a b c w w' : World}
instance : CoeOut (Bel B w w') (Below B w w') := ⟨Bel.toBelow⟩
theorem Bel.refl (B : Nat) (w : World) : Bel B w w := ⟨Below.refl B w, Nat.le_refl _⟩
theorem Bel.trans (h : Bel B a b) (k : Bel B b c) : Bel B a c := ⟨h.toBelow.trans k.toBelow, Nat.le_trans h.dr k.dr⟩
theorem Bel.mono (h : Bel B a b) (hB : B' ≤ B) : Bel B' a b := ⟨h.toBelow.mono hB, h.dr⟩
theorem Bel.alloc (h : Bel B a w) (hB : B ≤ w.heap.size) (o : Obj) : Bel B a (w.alloc o) := ⟨h.toBelow.alloc hB o, h.dr⟩
theorem Bel.drewN (h : Bel B a w) (n : Nat) : Bel B a (w.drewN n) := ⟨below_drawnN h.toBelow n, Nat.le_trans h.dr (Nat.le_add_right _ _)⟩
theorem Bel.setCell (h : Bel B a w) {p : Addr} (hp : B ≤ p.block) (u : Value) : Bel B a (w.setCell p u) := ⟨h.toBelow.setCell hp u, h.dr⟩
theorem Bel.of_run {α : Type} {P : Program} {s : Sem α} {v : α} (hr : s.run P w = .ok v w') (hb : Below B w w') : Bel B w w' := ⟨hb, run_drawn s hr⟩
theorem bel_alloc (w : World) (o : Obj) : Bel w.heap.size w (w.alloc o) := ⟨below_alloc w o, Nat.le_refl _⟩
/-- Such a world is the old one, some draws on, with blocks behind it. -/
theorem Bel.grow (h : Bel w.heap.size w w') : ∃ q os, w' = grow (w.drewN q) os := by
  obtain ⟨⟨d, os⟩, e⟩ := regrown_of_below h.toBelow
  have hd : w.drawn ≤ d := by
    have := h.dr
    rw [e] at this
    exact this
  refine ⟨d - w.drawn, os, ?_⟩
  rw [e]
  show Sort.grow { w with drawn := d } os = Sort.grow { w with drawn := w.drawn + (d - w.drawn) } os
  rw [Nat.add_sub_cancel' hd]
theorem bel_grow (w : World) (q : Nat) (os : Array Obj) : Bel w.heap.size w (Sort.grow (w.drewN q) os) :=
  ⟨⟨rfl, rfl, rfl, by simp [Sort.grow], fun k hk => by simp [Sort.grow, Array.getElem?_append, hk]⟩, Nat.le_add_right _ _⟩
end
end Go.Proofs.YtgcgidoikpbfpaaGreat

/- Package item: two items held against each other by themselves. -/
namespace Go.Proofs.YtgcgidoikpbfpaaGreat
open Go.RowKit

/-- A block of an item's four cells. -/
theorem iblk {w : World} {g : Nat} {t : TypeId} {a b c d : Value} (h : Blk w g t #[a, b, c, d]) :
    w.cell? ⟨g, 0, none⟩ = some a ∧ w.cell? ⟨g, 1, none⟩ = some b ∧ w.cell? ⟨g, 2, none⟩ = some c ∧ w.cell? ⟨g, 3, none⟩ = some d ∧ w.frozen? ⟨g, 3, none⟩ = false :=
  ⟨by rw [h.cell]; rfl, by rw [h.cell]; rfl, by rw [h.cell]; rfl, by rw [h.cell]; rfl, h.free 3⟩
/-- Two items boxed, one behind the other. -/
theorem iblk2 (w : World) (t : TypeId) (a b : Array Value) : ∃ w1, (w.alloc (.cells a t)).alloc (.cells b t) = w1 ∧ Blk w1 w.heap.size t a ∧ Blk w1 (w.heap.size + 1) t b ∧ Below w.heap.size w w1 :=
  ⟨_, rfl, (Blk.fresh w t a).alloc _, by have := Blk.fresh (w.alloc (.cells a t)) t b; rwa [World.size_alloc] at this, (below_alloc w _).alloc (by simp) _⟩
theorem iblk2B (w : World) (t : TypeId) (a b : Array Value) : ∃ w1, (w.alloc (.cells a t)).alloc (.cells b t) = w1 ∧ Blk w1 w.heap.size t a ∧ Blk w1 (w.heap.size + 1) t b ∧ Bel w.heap.size w w1 :=
  ⟨_, rfl, (Blk.fresh w t a).alloc _, by have := Blk.fresh (w.alloc (.cells a t)) t b; rwa [World.size_alloc] at this, (bel_alloc w _).alloc (by simp) _⟩
theorem iblk1 (w : World) (t : TypeId) (a : Array Value) : ∃ w1, w.alloc (.cells a t) = w1 ∧ Blk w1 w.heap.size t a ∧ Below w.heap.size w w1 :=
  ⟨_, rfl, Blk.fresh w t a, below_alloc w _⟩

set_option maxRecDepth 100000 in
set_option maxHeartbeats 2000000 in
theorem item_compareOneB (k1 n1 k2 n2 : Int) (s1 s2 : ByteArray) (A1 A2 : Option Addr) (m1 c1 m2 c2 : Nat) (w : World) :
    Calls Tryz.prog 59 #[.agg #[.int .i64 k1, .int .u64 n1, .string s1, .slice A1 m1 c1], .agg #[.int .i64 k2, .int .u64 n2, .string s2, .slice A2 m2 c2]] w fun e w' =>
      e = .returned (.int .i64 (orC (intC k1 k2) (intC n1 n2) (intC m1 m2) (textC s1 s2))) ∧ Bel w.heap.size w w' := by
  have C1 := Lib.hid (fun w => cmp_int k1 k2 w)
  have C2 := Lib.hid (fun w => cmp_u64 n1 n2 w)
  have C3 := Lib.hid (fun w => cmp_int m1 m2 w)
  have C4 := Lib.hid (fun w => strings_compare s1 s2 w)
  generalize intC k1 k2 = x1 at *
  generalize intC n1 n2 = x2 at *
  generalize intC m1 m2 = x3 at *
  generalize textC s1 s2 = x4 at *
  go_enter Tryz.func59, Tryz.ntmps59
  go_wp2_with fail
  obtain ⟨w1, hw1, b1, b2, S⟩ := iblk2B w 25 #[.int .i64 k1, .int .u64 n1, .string s1, .slice A1 m1 c1] #[.int .i64 k2, .int .u64 n2, .string s2, .slice A2 m2 c2]
  rw [hw1]
  clear hw1
  have HS := Lib.hid S
  clear S
  generalize hgg : w.heap.size = g at *
  obtain ⟨p0, p1, p2, p3, -⟩ := iblk b1
  obtain ⟨q0, q1, q2, q3, -⟩ := iblk b2
  clear b1 b2
  refine wp_region_quiet_tail 22 (by kernel_rfl) (by kernel_rfl) ?_
  simp only [List.take_succ_cons, List.take_zero, List.drop_succ_cons, List.drop_zero]
  repeat (quiet_step (first | (with_reducible exact Calls.quiet_of_same (C1.out _)) | (with_reducible exact Calls.quiet_of_same (C2.out _)) | (with_reducible exact Calls.quiet_of_same (C3.out _)) | (with_reducible exact Calls.quiet_of_same (C4.out _))))
  refine wpQuiet_nil ?_
  rintro _ ⟨q, rfl⟩
  have HS2 := Lib.hid (HS.out.drewN q)
  have hg : g ≤ (w1.drewN q).heap.size := Nat.le_of_lt (block_lt_of_cell p0)
  generalize w1.drewN q = w2 at *
  go_wp2_with (go_at_call 78; refine (cmp_or x1 x2 x3 x4 _ _ (fun i hi => ?_)).mono ?_)
  · rw [(Blk.fresh w2 _ _).cell]
    rcases (by omega : i = 0 ∨ i = 1 ∨ i = 2 ∨ i = 3) with rfl | rfl | rfl | rfl <;> rfl
  · rintro e w' ⟨rfl, rfl⟩
    go_wp2
    go_ret
    exact ⟨rfl, by rw [hgg]; exact HS2.out.trans ((bel_alloc w2 _).mono hg)⟩
theorem item_compareOne (k1 n1 k2 n2 : Int) (s1 s2 : ByteArray) (A1 A2 : Option Addr) (m1 c1 m2 c2 : Nat) (w : World) :
    Calls Tryz.prog 59 #[.agg #[.int .i64 k1, .int .u64 n1, .string s1, .slice A1 m1 c1], .agg #[.int .i64 k2, .int .u64 n2, .string s2, .slice A2 m2 c2]] w fun e w' =>
      e = .returned (.int .i64 (orC (intC k1 k2) (intC n1 n2) (intC m1 m2) (textC s1 s2))) ∧ Below w.heap.size w w' :=
  (item_compareOneB k1 n1 k2 n2 s1 s2 A1 A2 m1 c1 m2 c2 w).mono fun _ _ h => ⟨h.1, h.2.toBelow⟩
end Go.Proofs.YtgcgidoikpbfpaaGreat
