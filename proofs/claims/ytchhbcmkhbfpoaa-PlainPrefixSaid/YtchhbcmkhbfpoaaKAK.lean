/- Items in memory. -/
import Derived.Test.YtchhbcmkhbfpoaaKAA
import Derived.Test.YtchhbcmkhbfpoaaKAJ
import Derived.Test.YtchhbcmkhbfpoaaKAI
import Derived.Lib.Bytealg
import Derived.Test.YtchhbcmkhbfpoaaChecked
import Derived.Lib.BytesEntry
import Derived.Test.YtchhbcmkhbfpoaaRows
import Derived.RegionTactic
import Derived.BigRegion
import Derived.Deep.RegionHeld3
import Derived.Test.YtchhbcmkhbfpoaaKAH
namespace Go.Proofs.Ytchhbcmkhbfpoaa
open Go.RowKit

mutual
/-- An item's four cells lie at b, o; its items where its list says; all in blocks of S. -/
def At1 (w : World) (S : Nat → Prop) : It → Nat → Nat → Prop
  | .mk k n s l, b, o => ∃ A cap, w.cell? ⟨b, o, none⟩ = some (.int .i64 k) ∧ w.cell? ⟨b, o + 1, none⟩ = some (.int .u64 n) ∧ w.cell? ⟨b, o + 2, none⟩ = some (.string s) ∧
      w.cell? ⟨b, o + 3, none⟩ = some (.slice A l.length cap) ∧ l.length ≤ cap ∧ (A = none → cap = 0) ∧ AtL w S l A
/-- A list of items, one behind the other, from A on. -/
def AtL (w : World) (S : Nat → Prop) : List It → Option Addr → Prop
  | [], _ => True
  | t :: r, A => ∃ b o, A = some ⟨b, o, none⟩ ∧ S b ∧ b < w.heap.size ∧ At1 w S t b o ∧ AtL w S r (some ⟨b, o + 4, none⟩)
end
section
variable {w w' : World} {S S' : Nat → Prop}
theorem At1.parts {t : It} {b o : Nat} (h : At1 w S t b o) : ∃ A cap, w.cell? ⟨b, o, none⟩ = some (.int .i64 t.k) ∧ w.cell? ⟨b, o + 1, none⟩ = some (.int .u64 t.n) ∧ w.cell? ⟨b, o + 2, none⟩ = some (.string t.s) ∧
      w.cell? ⟨b, o + 3, none⟩ = some (.slice A t.l.length cap) ∧ t.l.length ≤ cap ∧ (A = none → cap = 0) ∧ AtL w S t.l A := by
  cases t with | mk k n s l => simpa only [At1, It.k, It.n, It.s, It.l] using h
theorem At1.mk {t : It} {b o : Nat} (A : Option Addr) (cap : Nat) (h0 : w.cell? ⟨b, o, none⟩ = some (.int .i64 t.k)) (h1 : w.cell? ⟨b, o + 1, none⟩ = some (.int .u64 t.n)) (h2 : w.cell? ⟨b, o + 2, none⟩ = some (.string t.s))
    (h3 : w.cell? ⟨b, o + 3, none⟩ = some (.slice A t.l.length cap)) (h4 : t.l.length ≤ cap) (h5 : A = none → cap = 0) (h6 : AtL w S t.l A) : At1 w S t b o := by
  cases t with | mk k n s l => simp only [At1]; exact ⟨A, cap, h0, h1, h2, h3, h4, h5, h6⟩
theorem AtL.nil (A : Option Addr) : AtL w S [] A := by simp [AtL]
theorem AtL.cons {t : It} {r : List It} {A : Option Addr} (h : AtL w S (t :: r) A) : ∃ b o, A = some ⟨b, o, none⟩ ∧ S b ∧ b < w.heap.size ∧ At1 w S t b o ∧ AtL w S r (some ⟨b, o + 4, none⟩) := by simpa only [AtL] using h
theorem AtL.mk {t : It} {r : List It} {b o : Nat} (h1 : S b) (h2 : b < w.heap.size) (h3 : At1 w S t b o) (h4 : AtL w S r (some ⟨b, o + 4, none⟩)) : AtL w S (t :: r) (some ⟨b, o, none⟩) := by
  simp only [AtL]; exact ⟨b, o, rfl, h1, h2, h3, h4⟩
theorem cell_kept' {b o : Nat} {v : Value} (h : w'.heap[b]? = w.heap[b]?) (hc : w.cell? ⟨b, o, none⟩ = some v) : w'.cell? ⟨b, o, none⟩ = some v := by
  rw [World.cell?_of_block (w := w) (a := ⟨b, o, none⟩) h]; exact hc
theorem lt_kept {b : Nat} (h : w'.heap[b]? = w.heap[b]?) (hb : b < w.heap.size) : b < w'.heap.size := by
  have e : w'.heap[b]? = some w.heap[b] := h.trans (Array.getElem?_eq_getElem hb)
  exact (Array.getElem?_eq_some_iff.1 e).1
mutual
theorem At1.keep (hk : ∀ b, S b → b < w.heap.size → w'.heap[b]? = w.heap[b]?) (hS : ∀ b, S b → S' b) : ∀ (t : It) (b o : Nat), S b → b < w.heap.size → At1 w S t b o → At1 w' S' t b o
  | .mk k n s l, b, o, hs, hb, h => by
    simp only [At1] at h ⊢
    obtain ⟨A, cap, h0, h1, h2, h3, h4, h5, h6⟩ := h
    have e := hk b hs hb
    exact ⟨A, cap, cell_kept' e h0, cell_kept' e h1, cell_kept' e h2, cell_kept' e h3, h4, h5, AtL.keep hk hS l A h6⟩
theorem AtL.keep (hk : ∀ b, S b → b < w.heap.size → w'.heap[b]? = w.heap[b]?) (hS : ∀ b, S b → S' b) : ∀ (l : List It) (A : Option Addr), AtL w S l A → AtL w' S' l A
  | [], A, _ => AtL.nil A
  | t :: r, A, h => by
    simp only [AtL] at h ⊢
    obtain ⟨b, o, rfl, h1, h2, h3, h4⟩ := h
    exact ⟨b, o, rfl, hS b h1, lt_kept (hk b h1 h2) h2, At1.keep hk hS t b o h1 h2 h3, AtL.keep hk hS r _ h4⟩
end
/-- What lay below the heap's size lies as it lay. -/
theorem AtL.on {l : List It} {A : Option Addr} (h : AtL w S l A) (hb : Below w.heap.size w w') : AtL w' S l A := AtL.keep (fun b _ hlt => hb.block b hlt) (fun _ h => h) l A h
theorem AtL.alloc {l : List It} {A : Option Addr} (h : AtL w S l A) (ob : Obj) : AtL (w.alloc ob) S l A := h.on (below_alloc w ob)
theorem AtL.drew {l : List It} {A : Option Addr} (h : AtL w S l A) : AtL w.drew S l A := AtL.keep (w := w) (w' := w.drew) (fun _ _ _ => rfl) (fun _ h => h) l A h
theorem AtL.drewN {l : List It} {A : Option Addr} (h : AtL w S l A) (n : Nat) : AtL (w.drewN n) S l A := AtL.keep (w := w) (w' := w.drewN n) (fun _ _ _ => rfl) (fun _ h => h) l A h
theorem AtL.more {l : List It} {A : Option Addr} (h : AtL w S l A) (hS : ∀ b, S b → S' b) : AtL w S' l A := AtL.keep (fun _ _ _ => rfl) hS l A h
theorem AtL.drop {l : List It} {b o : Nat} (h : AtL w S l (some ⟨b, o, none⟩)) : ∀ i, AtL w S (l.drop i) (some ⟨b, o + 4 * i, none⟩) := by
  intro i
  induction i generalizing l o with
  | zero => simpa using h
  | succ i ih =>
    cases l with
    | nil => simpa using AtL.nil _
    | cons t r =>
      obtain ⟨b', o', e, h1, h2, h3, h4⟩ := h.cons
      injection e with e
      injection e with e1 e2 _
      subst e1; subst e2
      have := ih h4
      rw [show o + 4 * (i + 1) = o + 4 + 4 * i by omega]
      simpa using this
/-- Item number i. -/
theorem AtL.get {l : List It} {A : Option Addr} (h : AtL w S l A) {i : Nat} (hi : i < l.length) : ∃ b o, A = some ⟨b, o, none⟩ ∧ S b ∧ b < w.heap.size ∧ At1 w S l[i] b (o + 4 * i) ∧ AtL w S (l.drop (i + 1)) (some ⟨b, o + 4 * (i + 1), none⟩) := by
  have hne : l ≠ [] := fun e => by subst e; simp at hi
  obtain ⟨t, r, rfl⟩ : ∃ t r, l = t :: r := by cases l with
    | nil => exact absurd rfl hne
    | cons t r => exact ⟨t, r, rfl⟩
  obtain ⟨b, o, rfl, h1, h2, h3, h4⟩ := h.cons
  have hd := AtL.drop (i := i) (AtL.mk h1 h2 h3 h4)
  rw [List.drop_eq_getElem_cons hi] at hd
  obtain ⟨b', o', e, g1, g2, g3, g4⟩ := hd.cons
  injection e with e
  injection e with e1 e2 _
  subst e1; subst e2
  exact ⟨b, o, rfl, g1, g2, g3, g4⟩
/-- The list without its first n: where it lies. -/
def cutI (A : Option Addr) (n cap : Nat) : Option Addr := if cap = n then A else A.map (·.add (n * 4))
theorem AtL.cut {l : List It} {A : Option Addr} (h : AtL w S l A) (n : Nat) {cap : Nat} (hc : l.length ≤ cap) : AtL w S (l.drop n) (cutI A n cap) := by
  unfold cutI
  by_cases hn : n < l.length
  · rw [if_neg (by omega)]
    obtain ⟨b, o, rfl, _⟩ := h.get hn
    have := h.drop n
    rw [Option.map_some, Addr.add_mid, Nat.mul_comm n 4]
    exact this
  · rw [List.drop_of_length_le (by omega)]; exact AtL.nil _
end
end Go.Proofs.Ytchhbcmkhbfpoaa

/- Numbers and texts held against each other; the first that isn't 0. -/
namespace Go.Proofs.Ytchhbcmkhbfpoaa
open Go.RowKit

theorem ByteArray.toNat_list (a : UInt8) : ((a.toNat : Int)) = ((a.toNat : Nat) : Int) := rfl
theorem textC_bytes : ∀ (a b : List UInt8), seqC intC (a.map fun c => (c.toNat : Int)) (b.map fun c => (c.toNat : Int)) = Lib.compareBytes a b := by
  intro a
  induction a with
  | nil => intro b; cases b <;> simp [seqC, Lib.compareBytes]
  | cons x a ih =>
    intro b
    cases b with
    | nil => simp [seqC, Lib.compareBytes]
    | cons y b =>
      simp only [List.map_cons, seqC, Lib.compareBytes, ih b]
      unfold intC
      have h1 : (x < y) ↔ (x.toNat : Int) < (y.toNat : Int) := by rw [UInt8.lt_iff_toNat_lt]; omega
      have h2 : (y < x) ↔ (y.toNat : Int) < (x.toNat : Int) := by rw [UInt8.lt_iff_toNat_lt]; omega
      by_cases p : x < y
      · rw [if_pos (h1.1 p), if_pos p]; rfl
      · rw [if_neg (fun h => p (h1.2 h)), if_neg p]
        by_cases q : y < x
        · rw [if_pos (h2.1 q), if_pos q]; rfl
        · rw [if_neg (fun h => q (h2.2 h)), if_neg q]; rfl
theorem textC_eq (a b : ByteArray) : textC a b = Lib.compareBytes a.data.toList b.data.toList := textC_bytes _ _

def orC (a b c d : Int) : Int := if a ≠ 0 then a else if b ≠ 0 then b else if c ≠ 0 then c else d
theorem oneC_or (x y : It) : oneC x y = orC (intC x.k y.k) (intC x.n y.n) (intC x.l.length y.l.length) (textC x.s y.s) := by
  unfold oneC thenC orC
  rfl
theorem orC_at {a b c d x : Int} {k : Nat} (hk : k < 4) (hz : ∀ j, j < k → [a, b, c, d].getD j 0 = 0) (hx : [a, b, c, d].getD k 0 = x) (h : x ≠ 0) : orC a b c d = x := by
  unfold orC
  have z0 := hz 0
  have z1 := hz 1
  have z2 := hz 2
  rcases (by omega : k = 0 ∨ k = 1 ∨ k = 2 ∨ k = 3) with rfl | rfl | rfl | rfl <;> simp_all
theorem orC_none {a b c d : Int} (hz : ∀ j, j < 4 → [a, b, c, d].getD j 0 = 0) : orC a b c d = 0 := by
  have z0 := hz 0 (by omega)
  have z1 := hz 1 (by omega)
  have z2 := hz 2 (by omega)
  have z3 := hz 3 (by omega)
  clear hz
  unfold orC
  simp_all
end Go.Proofs.Ytchhbcmkhbfpoaa

/- bytes.Compare. -/
namespace Go.Proofs.Ytchhbcmkhbfpoaa
open Go.RowKit

theorem byteL_back {xs : List Int} (h : ByteL xs) : (Lib.bytesOf xs).map (fun c => (c.toNat : Int)) = xs := by
  unfold Lib.bytesOf
  rw [List.map_map]
  conv => rhs; rw [← List.map_id xs]
  refine List.map_congr_left fun x hx => ?_
  have := h x hx
  simp only [Function.comp, id]
  rw [UInt8.toNat_ofNat']
  omega
theorem compare_nums {xs ys : List Int} (hx : ByteL xs) (hy : ByteL ys) : Lib.compareBytes (Lib.bytesOf xs) (Lib.bytesOf ys) = seqC intC xs ys := by
  rw [← textC_bytes, byteL_back hx, byteL_back hy]
theorem run_bytesOf {w : World} {A : Option Addr} {cap : Nat} {xs : List Int} (h : Rd w w.heap.size .u8 A xs) : (Extern.Bytes.bytesOf (.slice A xs.length cap)).run Try.prog w = .ok ⟨(Lib.bytesOf xs).toArray⟩ w := by
  cases A with
  | none =>
    have hx : xs = [] := by
      rcases xs with _ | ⟨x, r⟩
      · rfl
      · obtain ⟨b, o, h, _⟩ := h (by simp)
        cases h
    subst hx
    rfl
  | some a =>
    by_cases hn : xs = []
    · subst hn
      cases a
      rfl
    · obtain ⟨b, o, hA, _, hc⟩ := h (List.length_pos_iff.2 hn)
      injection hA with hA
      subst hA
      have hl := Lib.run_loadBytesX (P := Try.prog) w xs ⟨b, o, none⟩ .empty (fun j x hj => by
        have hjl : j < xs.length := (List.getElem?_eq_some_iff.1 hj).1
        rw [Addr.add_mid, hc j hjl, List.getD_eq_getElem?_getD, hj]
        rfl)
      show (Extern.Bytes.loadBytes ⟨b, o, none⟩ xs.length .empty).run Try.prog w = _
      rw [hl]
      congr 1
      apply ByteArray.ext
      show (#[] : Array UInt8) ++ (Lib.bytesOf xs).toArray = (Lib.bytesOf xs).toArray
      simp
theorem run_compareSlices {w : World} {A1 A2 : Option Addr} {c1 c2 : Nat} {xs ys : List Int} (h1 : Rd w w.heap.size .u8 A1 xs) (h2 : Rd w w.heap.size .u8 A2 ys) (hx : ByteL xs) (hy : ByteL ys) :
    (Extern.BytealgCompare.compare #[.slice A1 xs.length c1, .slice A2 ys.length c2]).run Try.prog w = .ok (.int .i64 (seqC intC xs ys)) w := by
  change Sem.run Try.prog (do pure (goInt (Extern.BytealgCompare.cmp (← Extern.Bytes.bytesOf (.slice A1 xs.length c1)) (← Extern.Bytes.bytesOf (.slice A2 ys.length c2))))) w = _
  simp only [Sem.run_bind, run_bytesOf h1, run_bytesOf h2, Sem.run_pure, Result.andThen]
  rw [Lib.cmp_eq, ← compare_nums hx hy]
  rfl
set_option maxRecDepth 100000 in
theorem bytes_compare (A1 A2 : Option Addr) (c1 c2 : Nat) (xs ys : List Int) (w : World) (h1 : Rd w w.heap.size .u8 A1 xs) (h2 : Rd w w.heap.size .u8 A2 ys) (hx : ByteL xs) (hy : ByteL ys) :
    Calls Try.prog 96 #[.slice A1 xs.length c1, .slice A2 ys.length c2] w fun e w' => e = .returned (.int .i64 (seqC intC xs ys)) ∧ w' = w := by
  have hr := run_compareSlices (c1 := c1) (c2 := c2) h1 h2 hx hy
  obtain ⟨z, hz⟩ : ∃ z, seqC intC xs ys = z := ⟨_, rfl⟩
  rw [hz] at hr ⊢
  have HR := Lib.hid hr
  clear hr h1 h2 hx hy hz
  go_enter Try.func96, Try.ntmps96
  go_wp2
  rw [run_callFunc_extern Try.func97 (by kernel_rfl) (by kernel_rfl) (by kernel_rfl) (e := Extern.BytealgCompare.compare) (by kernel_rfl), HR.out]
  simp only [Result.andThen]
  rw [Oper.upon_value]
  go_wp2
  go_ret
  exact ⟨rfl, rfl⟩
end Go.Proofs.Ytchhbcmkhbfpoaa

/- A slice of the call's own at a known block: one of its numbers is read, is written. -/
namespace Go.Proofs.Ytchhbcmkhbfpoaa
open Go.RowKit

section
variable {w w' : World} {B g n cap : Nat} {k : IntKind} {e : TypeId} {zs : List Int}
theorem Own.at (h : Own w B k e (.slice (some ⟨g, 0, none⟩) n cap) zs) {j : Nat} (hj : j < zs.length) : w.cell? ⟨g, j, none⟩ = some (.int k (zs.getD j 0)) ∧ w.frozen? ⟨g, j, none⟩ = false := by
  obtain ⟨g', cap', hv, _, h1, h2, _⟩ := h.put hj 0
  injection hv with e1 e2 e3
  injection e1 with e1
  injection e1 with e1
  subst e1
  exact ⟨h1, h2⟩
theorem Own.set (h : Own w B k e (.slice (some ⟨g, 0, none⟩) n cap) zs) {j : Nat} (hj : j < zs.length) (x : Int) : Own (w.setCell ⟨g, j, none⟩ (.int k x)) B k e (.slice (some ⟨g, 0, none⟩) n cap) (zs.set j x) := by
  obtain ⟨g', cap', hv, _, _, _, h3, _⟩ := h.put hj x
  injection hv with e1 e2 e3
  injection e1 with e1
  injection e1 with e1
  subst e1
  exact h3
theorem Own.ge (h : Own w B k e (.slice (some ⟨g, 0, none⟩) n cap) zs) : B ≤ g := by
  obtain ⟨A, cap', hv, _, _, _, hb, _⟩ := h.form
  injection hv with e1 e2 e3
  obtain ⟨b, hp, hB⟩ := hb _ e1.symm
  injection hp with e1
  omega
theorem Own.lt (h : Own w B k e (.slice (some ⟨g, 0, none⟩) n cap) zs) (hn : 0 < zs.length) : g < w.heap.size := block_lt_of_cell (h.at hn).1
theorem Own.len (h : Own w B k e (.slice (some ⟨g, 0, none⟩) n cap) zs) : n = zs.length := by
  obtain ⟨A, cap', hv, _, _, _, _, _⟩ := h.form
  injection hv
/-- Its block. -/
theorem Own.head {v : Value} (h : Own w B k e v zs) (hn : 0 < zs.length) : ∃ g cap, v = .slice (some ⟨g, 0, none⟩) zs.length cap := by
  obtain ⟨g, cap, hv, _⟩ := h.put hn 0
  exact ⟨g, cap, hv⟩
end
end Go.Proofs.Ytchhbcmkhbfpoaa

/- Package order: keys in memory, its functions. -/
namespace Go.Proofs.Ytchhbcmkhbfpoaa
open Go.RowKit

/-- Of the blocks that were there only three have turned. -/
structure Tri (g p q : Nat) (w w' : World) : Prop where
  os : w'.os = w.os
  tape : w'.tape = w.tape
  output : w'.output = w.output
  size : w.heap.size ≤ w'.heap.size
  block : ∀ i, i < w.heap.size → i ≠ g → i ≠ p → i ≠ q → w'.heap[i]? = w.heap[i]?
section
variable {g p q B : Nat} {w w' w'' : World}
theorem Tri.refl : Tri g p q w w := ⟨rfl, rfl, rfl, Nat.le_refl _, fun _ _ _ _ _ => rfl⟩
theorem Tri.trans (h : Tri g p q w w') (k : Tri g p q w' w'') : Tri g p q w w'' :=
  ⟨k.os.trans h.os, k.tape.trans h.tape, k.output.trans h.output, Nat.le_trans h.size k.size, fun i hi a b c => (k.block i (Nat.lt_of_lt_of_le hi h.size) a b c).trans (h.block i hi a b c)⟩
theorem Tri.below (h : Tri g p q w w') (hs : B ≤ w.heap.size) (a : B ≤ g) (b : B ≤ p) (c : B ≤ q) : Below B w w' :=
  ⟨h.os, h.tape, h.output, h.size, fun i hi => h.block i (by omega) (by omega) (by omega) (by omega)⟩
theorem Tri.ofBelow (h : Below w.heap.size w w') : Tri g p q w w' := ⟨h.os, h.tape, h.output, h.size, fun i hi _ _ _ => h.block i hi⟩
theorem Tri.swap (h : Tri g p q w w') : Tri g q p w w' := ⟨h.os, h.tape, h.output, h.size, fun i hi a b c => h.block i hi a c b⟩
theorem Tri.on {i : Nat} {t : TypeId} {cs : Array Value} (h : Tri g p q w w') (hb : Blk w i t cs) (a : i ≠ g) (b : i ≠ p) (c : i ≠ q) : Blk w' i t cs := (h.block i hb.lt a b c).trans hb
theorem Tri.ofG (h : Only g w w') : Tri g p q w w' := ⟨h.os, h.tape, h.output, h.size, fun i hi a _ _ => h.block i hi (fun e => a (by injection e))⟩
theorem Tri.ofQ (h : Only q w w') : Tri g p q w w' := ⟨h.os, h.tape, h.output, h.size, fun i hi _ _ a => h.block i hi (fun e => a (by injection e))⟩
end

/-- A Keys in block g: the last key a in block p, the next one b in block q, each with room for m; e: one was ended. -/
structure Ks (w : World) (g p q m : Nat) (a b : List Int) (e : Bool) : Prop where
  blk : Blk w g 111 #[.slice (some ⟨p, 0, none⟩) a.length m, .slice (some ⟨q, 0, none⟩) b.length m, .int .i64 m, .bool e]
  pq : p ≠ q
  pg : p ≠ g
  qg : q ≠ g
  ow1 : Own w 0 .u8 5 (.slice (some ⟨p, 0, none⟩) a.length m) a
  ow2 : Own w 0 .u8 5 (.slice (some ⟨q, 0, none⟩) b.length m) b
  lp : p < w.heap.size
  lq : q < w.heap.size
  le1 : a.length ≤ m
  le2 : b.length ≤ m
  lem : m ≤ 1024
section
variable {g p q m : Nat} {w w' : World} {a b : List Int} {e : Bool}
theorem Own.on1 {B k t n c zs} (h : Own w B k t (.slice (some ⟨g, 0, none⟩) n c) zs) (hb : w'.heap[g]? = w.heap[g]?) : Own w' B k t (.slice (some ⟨g, 0, none⟩) n c) zs := by
  obtain ⟨h1, h2⟩ := h
  refine ⟨h1, ?_⟩
  rcases h2 with h2 | ⟨g', cap, cur, hv, hg, hh, r⟩
  · exact .inl h2
  · injection hv with e1 e2 e3
    injection e1 with e1
    injection e1 with e1
    subst e1
    exact .inr ⟨g, cap, cur, by rw [e2, e3], hg, by rw [hb]; exact hh, r⟩
/-- Kept where none of its blocks turns. -/
theorem Ks.keep (h : Ks w g p q m a b e) (hs : w.heap.size ≤ w'.heap.size) (hg : w'.heap[g]? = w.heap[g]?) (hp : w'.heap[p]? = w.heap[p]?) (hq : w'.heap[q]? = w.heap[q]?) : Ks w' g p q m a b e :=
  ⟨hg.trans h.blk, h.pq, h.pg, h.qg, h.ow1.on1 hp, h.ow2.on1 hq, Nat.lt_of_lt_of_le h.lp hs, Nat.lt_of_lt_of_le h.lq hs, h.le1, h.le2, h.lem⟩
theorem Ks.on (h : Ks w g p q m a b e) (hb : Below w.heap.size w w') : Ks w' g p q m a b e := h.keep hb.size (hb.block _ h.blk.lt) (hb.block _ h.lp) (hb.block _ h.lq)
theorem Ks.only {i : Nat} (h : Ks w g p q m a b e) (ho : Only i w w') (h1 : g ≠ i) (h2 : p ≠ i) (h3 : q ≠ i) : Ks w' g p q m a b e :=
  h.keep ho.size (ho.block _ h.blk.lt (fun e => h1 (by injection e))) (ho.block _ h.lp (fun e => h2 (by injection e))) (ho.block _ h.lq (fun e => h3 (by injection e)))
theorem Ks.cells (h : Ks w g p q m a b e) : w.cell? ⟨g, 0, none⟩ = some (.slice (some ⟨p, 0, none⟩) a.length m) ∧ w.cell? ⟨g, 1, none⟩ = some (.slice (some ⟨q, 0, none⟩) b.length m) ∧ w.cell? ⟨g, 2, none⟩ = some (.int .i64 m) ∧ w.cell? ⟨g, 3, none⟩ = some (.bool e) ∧ ∀ i, w.frozen? ⟨g, i, none⟩ = false :=
  ⟨h.blk.cell 0, h.blk.cell 1, h.blk.cell 2, h.blk.cell 3, h.blk.free⟩
theorem Ks.rd1 (h : Ks w g p q m a b e) : Rd w w.heap.size .u8 (some ⟨p, 0, none⟩) a := by
  obtain ⟨A, cap, hv, _, _, _, _, h5⟩ := h.ow1.form
  injection hv with e1
  rw [e1]; exact h5
theorem Ks.rd2 (h : Ks w g p q m a b e) : Rd w w.heap.size .u8 (some ⟨q, 0, none⟩) b := by
  obtain ⟨A, cap, hv, _, _, _, _, h5⟩ := h.ow2.form
  injection hv with e1
  rw [e1]; exact h5
theorem Own.lt0 {B k t n c zs} (h : Own w B k t (.slice (some ⟨g, 0, none⟩) n c) zs) : g < w.heap.size := by
  rcases h.2 with ⟨h2, _⟩ | ⟨g', cap, cur, hv, hg, hh, r⟩
  · cases h2
  · injection hv with e1 e2 e3
    injection e1 with e1
    injection e1 with e1
    subst e1
    exact (Array.getElem?_eq_some_iff.1 hh).1
theorem Own.zero {B k t c zs n} (h : Own w B k t (.slice (some ⟨g, 0, none⟩) n c) zs) : Own w B k t (.slice (some ⟨g, 0, none⟩) 0 c) [] := by
  obtain ⟨h1, h2⟩ := h
  refine ⟨rfl, ?_⟩
  rcases h2 with ⟨h2, _⟩ | ⟨g', cap, cur, hv, hg, hh, hn, hc, hs, ht⟩
  · cases h2
  · injection hv with e1 e2 e3
    injection e1 with e1
    injection e1 with e1
    subst e1
    subst e3
    exact .inr ⟨g, c, cur, rfl, hg, hh, Nat.zero_le _, hc, hs, by simp⟩
end

/-- Is a ahead of b? -/
def ahead (a b : List Int) : Bool := decide (seqC intC a b < 0)
set_option maxRecDepth 100000 in
theorem order_Ahead (w : World) (A1 A2 : Option Addr) (c1 c2 : Nat) (xs ys : List Int) (h1 : Rd w w.heap.size .u8 A1 xs) (h2 : Rd w w.heap.size .u8 A2 ys) (hx : ByteL xs) (hy : ByteL ys) :
    Calls Try.prog 93 #[.slice A1 xs.length c1, .slice A2 ys.length c2] w fun e w' => e = .returned (.bool (ahead xs ys)) ∧ w' = w := by
  have H := Lib.hid (bytes_compare A1 A2 c1 c2 xs ys w h1 h2 hx hy)
  have HA : Hid (ahead xs ys = decide (seqC intC xs ys < 0)) := rfl
  generalize seqC intC xs ys = z at *
  clear h1 h2 hx hy
  go_enter Try.func93, Try.ntmps93
  go_wp2_with fail
  refine H.out.mono ?_
  rintro e w' ⟨rfl, rfl⟩
  go_wp2_with fail
  go_ret
  exact ⟨by rw [HA.out]; rfl, rfl⟩

theorem order_Cap_nil (w : World) : Calls Try.prog 36 #[.pointer none] w fun e w' => e = .returned (.int .i64 0) ∧ w' = w := by
  go_enter Try.func36, Try.ntmps36
  go_wp2
  go_ret
  exact ⟨rfl, rfl⟩
theorem order_End_nil (w : World) : Calls Try.prog 89 #[.pointer none] w fun e w' => e = .returned (.bool false) ∧ w' = w := by
  go_enter Try.func89, Try.ntmps89
  go_wp2
  go_ret
  exact ⟨rfl, rfl⟩
theorem order_Reset_nil (w : World) : Calls Try.prog 82 #[.pointer none] w fun e w' => e = .returned (.tuple #[]) ∧ w' = w := by
  go_enter Try.func82, Try.ntmps82
  go_wp2
  refine bodyPost_ret (results_none rfl _ _ _) rfl ?_
  exact ⟨rfl, rfl⟩
theorem order_Byte_nil (w : World) (c : Int) : Calls Try.prog 59 #[.pointer none, .int .u8 c] w fun e w' => e = .returned (.bool false) ∧ Below w.heap.size w w' := by
  go_enter Try.func59, Try.ntmps59
  go_wp2
  go_region
  all_goals go_wp2
  all_goals go_ret
  all_goals exact ⟨rfl, below_drawn (Below.refl _ _)⟩

/-- One of an array's small parts. -/
theorem run_index_part {P : Program} {t e : TypeId} {n : Nat} {d : TypeDesc} (hu : P.underlying t = some (.array n e)) (he : P.underlying e = some d) (hd : d.isRow = false) (hs : (P.info? e).map (·.size) = some 1) (cs : Array Value) (i : Nat) (hi : i < n) (v : Value) (hx : cs[i]? = some v) (w : World) :
    (Instr.index t (.agg cs) (.int .i64 i)).run P w = .ok v w := by
  have hz : ∀ w, (sizeOf e).run P w = .ok 1 w := fun w => by
    cases hq : P.info? e with
    | none => simp [hq] at hs
    | some j =>
      have : j.size = 1 := by simpa [hq] using hs
      simp [sizeOf, typeInfo, hq, this]
  have ha : (isAgg e).run P w = .ok false w := by
    unfold isAgg
    rw [Sem.run_bind, run_underlying he w]
    cases d <;> first | rfl | simp_all [TypeDesc.isRow]
  have hi' : (asIntOf (Value.int IntKind.i64 i)).run P w = .ok (.i64, (i : Int)) w := rfl
  simp [Instr.index, run_underlying hu, hz, part, ha, hi', hx, hi]
set_option maxRecDepth 100000 in
theorem order_Cap (w : World) (g p q m : Nat) (a b : List Int) (e : Bool) (h : Ks w g p q m a b e) : Calls Try.prog 36 #[.pointer (some ⟨g, 0, none⟩)] w fun r w' => r = .returned (.int .i64 (2 * m)) ∧ w' = w := by
  obtain ⟨c0, c1, c2, c3, hf⟩ := h.cells
  have hm := h.lem
  clear h
  go_enter Try.func36, Try.ntmps36
  go_wp2
  have I0 : ∀ w, (Instr.index 109 (.agg #[.slice (some ⟨p, 0, none⟩) a.length m, .slice (some ⟨q, 0, none⟩) b.length m]) (.int .i64 0)).run Try.prog w = .ok (.slice (some ⟨p, 0, none⟩) a.length m) w := fun w => run_index_part Try.underlying109 Try.underlying22 rfl rfl _ 0 (by decide) _ rfl w
  have I1 : ∀ w, (Instr.index 109 (.agg #[.slice (some ⟨p, 0, none⟩) a.length m, .slice (some ⟨q, 0, none⟩) b.length m]) (.int .i64 1)).run Try.prog w = .ok (.slice (some ⟨q, 0, none⟩) b.length m) w := fun w => run_index_part Try.underlying109 Try.underlying22 rfl rfl _ 1 (by decide) _ rfl w
  go_loop [3, 12] (fun v i => ∃ k : Nat, k ≤ 2 ∧ i = .int .i64 k ∧ v = .int .i64 (k * m)) (fun _ i => 2 - (intOf i).toNat)
  case atStart => exact ⟨0, by omega, rfl, by simp⟩
  case round =>
    obtain ⟨k, hk, rfl, rfl⟩ := hrel
    obtain rfl | rfl | rfl : k = 0 ∨ k = 1 ∨ k = 2 := by omega
    · go_wp2
      go_round
      case rel => exact ⟨1, by omega, rfl, by simp⟩
      case measure => simp [intOf]
    · go_wp2
      go_round
      case rel => exact ⟨2, by omega, rfl, by go_num⟩
      case measure => simp [intOf]
    · go_wp2
      go_ret
      exact ⟨rfl, rfl⟩
end Go.Proofs.Ytchhbcmkhbfpoaa

/- Texts in UTF-8: the plain functions. -/
namespace Go.Proofs.Ytchhbcmkhbfpoaa
open Go.RowKit

/-- How far a sign has come: bytes to come, the bounds of the next one; gone wrong. -/
structure UQ where
  left : Nat
  lo : Int
  hi : Int
  wr : Bool
def uq0 : UQ := ⟨0, 0, 0, false⟩
def ulo (c : Int) : Int := if c = 224 then 160 else if c = 240 then 144 else 128
def uhi (c : Int) : Int := if c = 237 then 159 else if c = 244 then 143 else 191
/-- How many bytes follow a sign's first one; none: no sign begins so. -/
def umore (c : Int) : Option Nat := if 240 ≤ c ∧ c ≤ 244 then some 3 else if 224 ≤ c ∧ c ≤ 239 then some 2 else if 194 ≤ c ∧ c ≤ 223 then some 1 else if c ≤ 127 then some 0 else none
def ustep (q : UQ) (c : Int) : UQ :=
  if q.wr then q else if q.left = 0 then (match umore c with
    | some n => ⟨n, ulo c, uhi c, false⟩
    | none => { q with wr := true })
  else if c < q.lo ∨ q.hi < c then { q with wr := true } else ⟨q.left - 1, 128, 191, false⟩
def udone (q : UQ) : Bool := !q.wr && q.left == 0
def ucells (q : UQ) : Array Value := #[.int .i64 q.left, .int .u8 q.lo, .int .u8 q.hi, .bool q.wr]

def urun : UQ → List Int → UQ
  | q, [] => q
  | q, c :: r => urun (ustep q c) r
/-- The place of the first byte that can't stand there, counted from i; -1: none. -/
def uat : UQ → List Int → Nat → Int
  | _, [], _ => -1
  | q, c :: r, i => if (ustep q c).wr then i else uat (ustep q c) r (i + 1)
def uok (q : UQ) (l : List Int) : Bool := udone (urun q l)
/-- The bytes of a text. -/
def sbytes (s : ByteArray) : List Int := s.data.toList.map fun b => (b.toNat : Int)
def sb (s : ByteArray) (k : Nat) : Int := (sbytes s).getD k 0
theorem length_sbytes (s : ByteArray) : (sbytes s).length = s.size := by simp [sbytes]
theorem sb_range (s : ByteArray) (k : Nat) : 0 ≤ sb s k ∧ sb s k < 256 := by
  unfold sb sbytes
  rw [List.getD_eq_getElem?_getD, List.getElem?_map]
  cases s.data.toList[k]? with
  | none => simp
  | some b => have := b.toNat_lt; simp; omega
theorem sb_eq (s : ByteArray) (k : Nat) (h : k < s.size) : ((s[k]'h).toNat : Int) = sb s k := by
  have hl : k < s.data.toList.length := by simpa using h
  unfold sb sbytes
  rw [List.getD_eq_getElem?_getD, List.getElem?_map, List.getElem?_eq_getElem hl]
  rfl
/-- A text's byte is read. -/
theorem run_sb {P : Program} {t : TypeId} (ht : P.underlying t = some .string) (w : World) (s : ByteArray) (k : Nat) (h : k < s.size) (i : Int) (hi : i = k) : (Instr.index t (.string s) (.int .i64 i)).run P w = .ok (.int .u8 (sb s k)) w := by
  subst hi
  rw [run_index_string w t s .i64 k ht, dif_pos (by omega)]
  show Result.ok (Value.int .u8 ((s[(k : Int).toNat]'_).toNat : Int)) w = _
  rw [show ((s[(k : Int).toNat]'(by omega)).toNat : Int) = ((s[k]'h).toNat : Int) from rfl, sb_eq]
end Go.Proofs.Ytchhbcmkhbfpoaa

/- Package auto: the plain machine, byte by byte, and the plain scan of the whole. -/
namespace Go.Proofs.Ytchhbcmkhbfpoaa

/-- A frame: kind, items or pairs to come, has a key come, the key ahead, the key so far, is there one ahead. -/
structure Fr where
  kind : Int
  left : Int
  half : Bool
  last : List Int
  cur : List Int
  any : Bool
def Fr.waits (f : Fr) : Bool := f.kind == 5 && !f.half
def Fr.feeds (xs : List Int) (f : Fr) : Fr := if f.waits then { f with cur := f.cur ++ xs } else f
def Fr.full (K : Nat) (f : Fr) : Bool := f.waits && f.cur.length == K
abbrev Note := Nat × Int
/-- An event: what it is, and at which place it is told. -/
structure AEv where
  kind : Int
  major : Int
  width : Int
  arg : Int
  byte : Int
  deep : Nat
  pl : Nat
inductive Ctl
  | head (q : HQ)
  | text (n : Int) (t : Bool) (u : UQ)
  | ended
  | fin
structure AQ where
  st : List Fr
  ctl : Ctl
structure Out where
  next : Option AQ
  notes : List Note
  evs : List AEv
def begins (st : List Fr) : AQ := ⟨st, .head hq0⟩
def aq0 : AQ := begins []
/-- Behind a head. -/
def enter (st : List Fr) (m a : Int) : AQ :=
  if m = 2 ∨ m = 3 then (if a = 0 then ⟨st, .ended⟩ else ⟨st, .text a (m == 3) uq0⟩)
  else if m = 4 ∨ m = 5 then (if a = 0 then ⟨st, .ended⟩ else begins (⟨m, a, false, [], [], false⟩ :: st))
  else if m = 6 then begins (⟨6, 1, false, [], [], false⟩ :: st)
  else ⟨st, .ended⟩
noncomputable def hnotes (D K i : Nat) (st : List Fr) (q : HQ) (c : Int) : List Note :=
  (if herr q c = 2 then [(i, 2)] else []) ++ ((if q.opn = false ∧ D < st.length + 1 then [(i, 3)] else []) ++ ((if st.any (Fr.full K) then [(i, 4)] else []) ++ (if herr q c = 5 then [(i, 5)] else [])))
def tnotes (K i : Nat) (st : List Fr) (n : Int) (t : Bool) (u : UQ) (c : Int) : List Note :=
  (if st.any (Fr.full K) then [(i, 4)] else []) ++ (if t && !u.wr && ((ustep u c).wr || (n == 1 && !udone (ustep u c))) then [(i, 6)] else [])
noncomputable def bstep (D K i : Nat) (s : AQ) (c : Int) : Out := match s.ctl with
  | .head q => ⟨if hdone q c then some (enter (s.st.map (Fr.feeds [c])) (hstep q c).major (hstep q c).arg) else if herr q c = 0 then some ⟨s.st.map (Fr.feeds [c]), .head (hstep q c)⟩ else none,
      hnotes D K i s.st q c, if hdone q c then [⟨1, (hstep q c).major, (hstep q c).width, (hstep q c).arg, 0, s.st.length + 1, i⟩] else []⟩
  | .text n t u => ⟨some (if n = 1 then ⟨s.st.map (Fr.feeds [c]), .ended⟩ else ⟨s.st.map (Fr.feeds [c]), .text (n - 1) t (if t then ustep u c else u)⟩), tnotes K i s.st n t u c, [⟨2, 0, 0, 0, c, s.st.length + 1, i⟩]⟩
  | .ended => ⟨none, [], []⟩
  | .fin => ⟨none, [(i, 2)], []⟩
def Fr.keyed (f : Fr) : Fr := { f with half := true, last := f.cur, cur := [], any := true }
def Fr.less (f : Fr) : Fr := { f with half := false, left := f.left - 1 }
def onotes (i : Nat) (f : Fr) : List Note := if f.any && !ahead f.last f.cur then [(i - 1, 7)] else []
def endEv (key : Bool) (deep i : Nat) : AEv := ⟨if key then 4 else 3, 0, 0, 0, 0, deep, i - 1⟩
/-- An item has ended, with the byte ahead of place i. -/
def estep (i : Nat) : List Fr → AQ × List Note × List AEv
  | [] => (⟨[], .fin⟩, [], [endEv false 1 i])
  | f :: st => if f.waits then (begins (f.keyed :: st), onotes i f, [endEv true (st.length + 2) i])
      else (if f.left = 1 then ⟨st, .ended⟩ else begins (f.less :: st), [], [endEv false (st.length + 2) i])
/-- All items that end there. -/
def settle (i : Nat) : List Fr → AQ × List Note × List AEv
  | [] => (⟨[], .fin⟩, [], [endEv false 1 i])
  | f :: st => if f.waits then (begins (f.keyed :: st), onotes i f, [endEv true (st.length + 2) i])
      else if f.left = 1 then ((settle i st).1, (settle i st).2.1, endEv false (st.length + 2) i :: (settle i st).2.2)
      else (begins (f.less :: st), [], [endEv false (st.length + 2) i])
def AQ.isEnded (s : AQ) : Bool := match s.ctl with | .ended => true | _ => false
/-- A byte, and all that ends with it. -/
noncomputable def fstep (D K i : Nat) (s : AQ) (c : Int) : Out := match (bstep D K i s c).next with
  | none => bstep D K i s c
  | some s' => if s'.isEnded then ⟨some (settle (i + 1) s'.st).1, (bstep D K i s c).notes ++ (settle (i + 1) s'.st).2.1, (bstep D K i s c).evs ++ (settle (i + 1) s'.st).2.2⟩ else bstep D K i s c

/-- The machine in small steps. -/
inductive Goes (D K : Nat) (B : List Int) : Nat → AQ → Nat → AQ → List Note → List AEv → Prop
  | refl (i s) : Goes D K B i s i s [] []
  | byte {i s s' j s'' N E} (hi : i < B.length) (h : (bstep D K i s (B.getD i 0)).next = some s') (g : Goes D K B (i + 1) s' j s'' N E) :
      Goes D K B i s j s'' ((bstep D K i s (B.getD i 0)).notes ++ N) ((bstep D K i s (B.getD i 0)).evs ++ E)
  | ende {i s j s'' N E} (h : s.isEnded = true) (g : Goes D K B i (estep i s.st).1 j s'' N E) : Goes D K B i s j s'' ((estep i s.st).2.1 ++ N) ((estep i s.st).2.2 ++ E)
section
variable {D K : Nat} {B : List Int}
theorem Goes.trans {i s j s' k s'' N E N' E'} (h : Goes D K B i s j s' N E) (h' : Goes D K B j s' k s'' N' E') : Goes D K B i s k s'' (N ++ N') (E ++ E') := by
  induction h with
  | refl => exact h'
  | byte hi hn _ ih => rw [List.append_assoc, List.append_assoc]; exact .byte hi hn (ih h')
  | ende hn _ ih => rw [List.append_assoc, List.append_assoc]; exact .ende hn (ih h')
theorem Goes.one {i s s' c n e} (hi : i < B.length) (hc : B.getD i 0 = c) (h : (bstep D K i s c).next = some s') (hn : (bstep D K i s c).notes = n) (he : (bstep D K i s c).evs = e) : Goes D K B i s (i + 1) s' n e := by
  subst hc
  have := Goes.byte (D := D) (K := K) hi h (.refl (i + 1) s')
  rwa [List.append_nil, List.append_nil, hn, he] at this
theorem Goes.end1 {i s s' n e} (h : s.isEnded = true) (he : estep i s.st = (s', n, e)) : Goes D K B i s i s' n e := by
  have := Goes.ende (D := D) (K := K) (B := B) (i := i) h (.refl i _)
  rwa [List.append_nil, List.append_nil, he] at this
end

/-- What a scan comes to. -/
structure Sc where
  notes : List Note
  evs : List AEv
  to : Nat
  ok : Bool
def scMany (item : Nat → Sc) : Nat → Nat → Sc
  | 0, a => ⟨[], [], a, true⟩
  | n + 1, a => if (item a).ok then ⟨(item a).notes ++ (scMany item n (item a).to).notes, (item a).evs ++ (scMany item n (item a).to).evs, (scMany item n (item a).to).to, (scMany item n (item a).to).ok⟩ else item a
def slice (B : List Int) (a b : Nat) : List Int := (B.drop a).take (b - a)
/-- A pair, and what follows it. -/
def scPair (B : List Int) (ik iv : Nat → Sc) (more : List Int → Nat → Sc) (fst : Bool) (last : List Int) (a : Nat) : Sc :=
  let r := ik a
  if r.ok then
    let now := slice B a r.to
    let nn : List Note := if !fst && !ahead last now then [(r.to - 1, 7)] else []
    let v := iv r.to
    if v.ok then let m := more now v.to; ⟨r.notes ++ (nn ++ (v.notes ++ m.notes)), r.evs ++ (v.evs ++ m.evs), m.to, m.ok⟩
    else ⟨r.notes ++ (nn ++ v.notes), r.evs ++ v.evs, v.to, false⟩
  else r
def scPairs (B : List Int) (ik iv : Nat → Sc) : Nat → Bool → List Int → Nat → Sc
  | 0, _, _, a => ⟨[], [], a, true⟩
  | n + 1, fst, last, a => scPair B ik iv (scPairs B ik iv n false) fst last a
def unotes (wh : Bool) : UQ → List Int → Nat → List Note
  | _, [], _ => []
  | u, c :: r, i => (if !u.wr && ((ustep u c).wr || (wh && r.isEmpty && !udone (ustep u c))) then [(i, 6)] else []) ++ unotes wh (ustep u c) r (i + 1)
def bevs (d : Nat) : List Int → Nat → List AEv
  | [], _ => []
  | c :: r, i => ⟨2, 0, 0, 0, c, d, i⟩ :: bevs d r (i + 1)
/-- What an item has behind its head, which ends ahead of place a. -/
def scBody (B : List Int) (item : Nat → Nat → Bool → Sc) (d : Nat) (m g : Int) (a : Nat) : Sc :=
  if m = 2 ∨ m = 3 then
    let wh := decide (g ≤ ((B.length - a : Nat) : Int))
    let n := if wh then g.toNat else B.length - a
    ⟨if m = 3 then unotes wh uq0 (slice B a (a + n)) a else [], bevs d (slice B a (a + n)) a, a + n, wh⟩
  else if m = 4 ∨ m = 6 then scMany (fun a => item a (d + 1) false) (if m = 6 then 1 else g.toNat) a
  else if m = 5 then scPairs B (fun a => item a (d + 1) true) (fun a => item a (d + 1) false) g.toNat true [] a
  else ⟨[], [], a, true⟩
noncomputable def scInner (B : List Int) (item : Nat → Nat → Bool → Sc) (a d : Nat) : Sc :=
  let r := hread (B.drop a)
  if B.length ≤ a ∨ r.e = 9 then ⟨[], [], a, false⟩
  else
    let nn : List Note := if r.e = 0 then [] else [(a + r.place.toNat, r.e)]
    if r.many = 0 then ⟨nn, [], a, false⟩
    else
      let b := scBody B item d r.major r.arg (a + r.many.toNat)
      ⟨nn ++ b.notes, ⟨1, r.major, r.width, r.arg, 0, d, a + r.many.toNat - 1⟩ :: b.evs, b.to, b.ok⟩
/-- An item and its end; f: how many items in one another at most. -/
noncomputable def scItem (B : List Int) (D K : Nat) : Nat → Nat → Nat → Bool → Sc
  | 0, a, _, _ => ⟨[], [], a, false⟩
  | f + 1, a, d, key =>
    let r := scInner B (scItem B D K f) a d
    let to := if r.ok then r.to else B.length
    ⟨(if D < d ∧ a < B.length then [(a, 3)] else []) ++ (r.notes ++ (if key ∧ K < to - a then [(a + K, 4)] else [])), r.evs ++ (if r.ok then [endEv key d r.to] else []), r.to, r.ok⟩
end Go.Proofs.Ytchhbcmkhbfpoaa
