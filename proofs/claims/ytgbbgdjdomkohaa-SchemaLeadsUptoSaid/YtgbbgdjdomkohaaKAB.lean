/- Own words for memory: a slice that reads as numbers; a block that is known whole. -/
import Derived.WalkKit
import Derived.ProofKit
import Derived.OpenShut
import Derived.WalkLawsBesides
import Derived.WalkSpells
import Derived.Handy
import Derived.BigQuiet
import Derived.Lib.Hide
import Derived.Deep.QuietTactic
import Derived.Deep.LoopGhost
import Derived.Test.YtgbbgdjdomkohaaKAA
namespace Go.Proofs.Ytgbbgdjdomkohaa
open Go.RowKit

theorem ret_num {k : IntKind} {a b : Int} (h : a = b) : Ending.returned (.int k a) = .returned (.int k b) := by rw [h]

/-- In w the memory at A, below block B, reads as the numbers zs of kind k. -/
def Rd (w : World) (B : Nat) (k : IntKind) (A : Option Addr) (zs : List Int) : Prop :=
  0 < zs.length → ∃ b o, A = some ⟨b, o, none⟩ ∧ b < B ∧ ∀ i, i < zs.length → w.cell? ⟨b, o + i, none⟩ = some (.int k (zs.getD i 0))

section
variable {w w' : World} {B B' : Nat} {k : IntKind} {A : Option Addr} {zs : List Int}
theorem Rd.get (h : Rd w B k A zs) {i : Nat} (hi : i < zs.length) : ∃ b o, A = some ⟨b, o, none⟩ ∧ b < B ∧ w.cell? ⟨b, o + i, none⟩ = some (.int k (zs.getD i 0)) := by
  obtain ⟨b, o, hA, hb, hc⟩ := h (by omega)
  exact ⟨b, o, hA, hb, hc i hi⟩
theorem Rd.keep (h : Rd w B k A zs) (hk : ∀ p : Addr, p.block < B → w'.cell? p = w.cell? p) : Rd w' B k A zs := fun hn => by
  obtain ⟨b, o, hA, hb, hc⟩ := h hn
  exact ⟨b, o, hA, hb, fun i hi => (hk _ hb).trans (hc i hi)⟩
theorem Rd.more (h : Rd w B k A zs) (hB : B ≤ B') : Rd w B' k A zs := fun hn => by
  obtain ⟨b, o, hA, hb, hc⟩ := h hn
  exact ⟨b, o, hA, by omega, hc⟩
theorem Rd.below (h : Rd w B k A zs) (hb : Below B w w') : Rd w' B k A zs := h.keep fun _ hp => hb.cell hp
theorem Rd.drewN (h : Rd w B k A zs) (n : Nat) : Rd (w.drewN n) B k A zs := h
theorem Rd.drew (h : Rd w B k A zs) : Rd w.drew B k A zs := h
/-- Carried to a world in which nothing below the heap's old size has turned. -/
theorem Rd.on (h : Rd w w.heap.size k A zs) (hb : Below w.heap.size w w') : Rd w' w'.heap.size k A zs := (h.below hb).more hb.size
end

/-- Block g is just the cells cs. -/
def Blk (w : World) (g : Nat) (t : TypeId) (cs : Array Value) : Prop := w.heap[g]? = some (.cells cs t (0, 0))
section
variable {w w' : World} {B g : Nat} {t : TypeId} {cs : Array Value}
theorem Blk.lt (h : Blk w g t cs) : g < w.heap.size := (Array.getElem?_eq_some_iff.1 h).1
theorem Blk.cell (h : Blk w g t cs) (i : Nat) : w.cell? ⟨g, i, none⟩ = cs[i]? := cell_of_row w g i cs t (0, 0) h
theorem Blk.free (h : Blk w g t cs) (i : Nat) : w.frozen? ⟨g, i, none⟩ = false := by
  unfold Blk at h
  simp [World.frozen?, h]
theorem Blk.fresh (w : World) (t : TypeId) (cs : Array Value) : Blk (w.alloc (.cells cs t)) w.heap.size t cs := by
  show (w.heap.push _)[w.heap.size]? = _
  simp
theorem Blk.below (h : Blk w g t cs) (hb : Below B w w') (hg : g < B) : Blk w' g t cs := (hb.block g hg).trans h
theorem Blk.on (h : Blk w g t cs) (hb : Below w.heap.size w w') : Blk w' g t cs := h.below hb h.lt
theorem Blk.alloc (h : Blk w g t cs) (o : Obj) : Blk (w.alloc o) g t cs := (Below.heap_alloc w o g h.lt).trans h
theorem Blk.put (h : Blk w g t cs) (i : Nat) (u : Value) : Blk (w.setCell ⟨g, i, none⟩ u) g t (cs.setIfInBounds i u) := by
  unfold Blk at h ⊢
  simp [World.setCell, Array.getElem?_modify, h]
theorem Blk.far (h : Blk w g t cs) {p : Addr} (hp : g ≠ p.block) (u : Value) : Blk (w.setCell p u) g t cs := (Below.heap_setCell w p u g hp).trans h
end
/-- The cells of numbers. -/
def nums (k : IntKind) (zs : List Int) : Array Value := (zs.map (Value.int k)).toArray
theorem nums_get (k : IntKind) (zs : List Int) (i : Nat) (hi : i < zs.length) : (nums k zs)[i]? = some (.int k (zs.getD i 0)) := by
  simp [nums, List.getD, hi]
theorem Blk.rd {w : World} {g : Nat} {t : TypeId} {k : IntKind} {zs : List Int} (h : Blk w g t (nums k zs)) : Rd w w.heap.size k (some ⟨g, 0, none⟩) zs :=
  fun _ => ⟨g, 0, rfl, h.lt, fun i hi => by rw [Nat.zero_add, h.cell, nums_get k zs i hi]⟩
theorem nums_put (k : IntKind) (zs : List Int) (i : Nat) (u : Int) : (nums k zs).setIfInBounds i (.int k u) = nums k (zs.set i u) := by
  simp [nums, List.map_set]

/-- Between the worlds only block g has turned, and new ones have come. -/
def Only (g : Nat) (w w' : World) : Prop := w.grownBy w' (some g)
section
variable {w w' w'' : World} {B g : Nat}
theorem Only.refl (g : Nat) (w : World) : Only g w w := World.grownBy.refl w _
theorem Only.drew (h : Only g w w') : Only g w w'.drew := ⟨h.os, h.tape, h.output, h.size, h.block⟩
theorem Only.drewN (h : Only g w w') (n : Nat) : Only g w (w'.drewN n) := ⟨h.os, h.tape, h.output, h.size, h.block⟩
theorem Only.put (h : Only g w w') (o : Nat) (u : Value) : Only g w (w'.setCell ⟨g, o, none⟩ u) :=
  ⟨h.os, h.tape, h.output, by simpa [World.setCell] using h.size, fun i hi hne => (Below.heap_setCell w' _ u i (fun e => hne (by simp [e]))).trans (h.block i hi hne)⟩
theorem Only.trans (h : Only g w w') (k : Only g w' w'') : Only g w w'' :=
  ⟨k.os.trans h.os, k.tape.trans h.tape, k.output.trans h.output, Nat.le_trans h.size k.size, fun i hi hne => (k.block i (Nat.lt_of_lt_of_le hi h.size) hne).trans (h.block i hi hne)⟩
/-- If g is a block of the call's own. -/
theorem Only.below (h : Only g w w') (hB : B ≤ g) (hs : B ≤ w.heap.size) : Below B w w' :=
  ⟨h.os, h.tape, h.output, h.size, fun i hi => h.block i (by omega) (fun e => by injection e with e; omega)⟩
end
theorem below_alloc (w : World) (o : Obj) : Below w.heap.size w (w.alloc o) := (Below.refl _ _).alloc (Nat.le_refl _) o
end Go.Proofs.Ytgbbgdjdomkohaa

/- Texts in UTF-8: the plain functions. -/
namespace Go.Proofs.Ytgbbgdjdomkohaa
open Go.RowKit

/-- How far a sign has come: bytes to come, the bounds of the next one; gone wrong. -/
structure UQ where
  left : Nat
  lo : Int
  hi : Int
  wr : Bool
def uq0 : UQ := ⟨0, 0, 0, false⟩
def ulo (c : Int) : Int := if c = 224 then 160 else if c = 240 then 144 else 128
def uhi (c : Int) : Int := if c = 237 then 159 else if c = 244 then 143 else 191
/-- How many bytes follow a sign's first one; none: no sign begins so. -/
def umore (c : Int) : Option Nat := if 240 ≤ c ∧ c ≤ 244 then some 3 else if 224 ≤ c ∧ c ≤ 239 then some 2 else if 194 ≤ c ∧ c ≤ 223 then some 1 else if c ≤ 127 then some 0 else none
def ustep (q : UQ) (c : Int) : UQ :=
  if q.wr then q else if q.left = 0 then (match umore c with
    | some n => ⟨n, ulo c, uhi c, false⟩
    | none => { q with wr := true })
  else if c < q.lo ∨ q.hi < c then { q with wr := true } else ⟨q.left - 1, 128, 191, false⟩
def udone (q : UQ) : Bool := !q.wr && q.left == 0
def ucells (q : UQ) : Array Value := #[.int .i64 q.left, .int .u8 q.lo, .int .u8 q.hi, .bool q.wr]

def urun : UQ → List Int → UQ
  | q, [] => q
  | q, c :: r => urun (ustep q c) r
/-- The place of the first byte that can't stand there, counted from i; -1: none. -/
def uat : UQ → List Int → Nat → Int
  | _, [], _ => -1
  | q, c :: r, i => if (ustep q c).wr then i else uat (ustep q c) r (i + 1)
def uok (q : UQ) (l : List Int) : Bool := udone (urun q l)
/-- The bytes of a text. -/
def sbytes (s : ByteArray) : List Int := s.data.toList.map fun b => (b.toNat : Int)
def sb (s : ByteArray) (k : Nat) : Int := (sbytes s).getD k 0
theorem length_sbytes (s : ByteArray) : (sbytes s).length = s.size := by simp [sbytes]
theorem sb_range (s : ByteArray) (k : Nat) : 0 ≤ sb s k ∧ sb s k < 256 := by
  unfold sb sbytes
  rw [List.getD_eq_getElem?_getD, List.getElem?_map]
  cases s.data.toList[k]? with
  | none => simp
  | some b => have := b.toNat_lt; simp; omega
theorem sb_eq (s : ByteArray) (k : Nat) (h : k < s.size) : ((s[k]'h).toNat : Int) = sb s k := by
  have hl : k < s.data.toList.length := by simpa using h
  unfold sb sbytes
  rw [List.getD_eq_getElem?_getD, List.getElem?_map, List.getElem?_eq_getElem hl]
  rfl
/-- A text's byte is read. -/
theorem run_sb {P : Program} {t : TypeId} (ht : P.underlying t = some .string) (w : World) (s : ByteArray) (k : Nat) (h : k < s.size) (i : Int) (hi : i = k) : (Instr.index t (.string s) (.int .i64 i)).run P w = .ok (.int .u8 (sb s k)) w := by
  subst hi
  rw [run_index_string w t s .i64 k ht, dif_pos (by omega)]
  show Result.ok (Value.int .u8 ((s[(k : Int).toNat]'_).toNat : Int)) w = _
  rw [show ((s[(k : Int).toNat]'(by omega)).toNat : Int) = ((s[k]'h).toNat : Int) from rfl, sb_eq]
end Go.Proofs.Ytgbbgdjdomkohaa

/- Schemas as plain tables: what is wrong of a node, and which node is the first. -/
namespace Go.Proofs.Ytgbbgdjdomkohaa

/-- A field: its key, its node, whether it may lack. -/
structure Fl where
  key : ByteArray
  node : Int
  opt : Bool
/-- A node. -/
structure Nd where
  k : Int
  lo : Int
  hi : Int
  v : It
  l : List Int
  f : List Fl
theorem Fl.eq_iff {a b : Fl} : a = b ↔ a.key = b.key ∧ a.node = b.node ∧ a.opt = b.opt := by
  cases a; cases b; simp
theorem Nd.eq_iff {a b : Nd} : a = b ↔ a.k = b.k ∧ a.lo = b.lo ∧ a.hi = b.hi ∧ a.v = b.v ∧ a.l = b.l ∧ a.f = b.f := by
  cases a; cases b; simp
def zIt : It := .mk 0 0 ⟨#[]⟩ []
/-- The node of a kind that has nothing else. -/
def Nd.of (k : Int) : Nd := ⟨k, 0, 0, zIt, [], []⟩
open Classical in
noncomputable def sameN (a b : Nd) : Bool := decide (a = b)
theorem sameN_true {a b : Nd} : sameN a b = true ↔ a = b := by simp [sameN]
theorem sameN_false {a b : Nd} : sameN a b = false ↔ a ≠ b := by simp [sameN]
theorem sameN_refl (a : Nd) : sameN a a = true := sameN_true.2 rfl
theorem sameN_of {a b : Nd} {r : Bool} (h : r = true ↔ a = b) : sameN a b = r := by
  cases r
  · exact sameN_false.2 fun e => by simpa using h.2 e
  · exact sameN_true.2 (h.1 rfl)
open Classical in
/-- All nodes alike? -/
noncomputable def sameS (a b : List Nd) : Bool := decide (a = b)
theorem sameS_true {a b : List Nd} : sameS a b = true ↔ a = b := by simp [sameS]
theorem sameS_refl (a : List Nd) : sameS a a = true := sameS_true.2 rfl
theorem sameS_of {a b : List Nd} {r : Bool} (h : r = true ↔ a = b) : sameS a b = r := by
  cases r
  · simp only [sameS, decide_eq_false_iff_not]
    exact fun e => by simpa using h.2 e
  · exact sameS_true.2 (h.1 rfl)

/-- The first that isn't 0, of n. -/
def firstE (f : Nat → Int) (n : Nat) : Int := firstErr ((List.range n).map f)
/-- .. its number. -/
def firstI (f : Nat → Int) (n : Nat) : Nat := ((List.range n).find? fun j => decide (f j ≠ 0)).getD 0
theorem firstE_all {f : Nat → Int} {n : Nat} (h : ∀ j, j < n → f j = 0) : firstE f n = 0 := firstErr_all fun x hx => by
  obtain ⟨j, hj, rfl⟩ := List.mem_map.1 hx
  exact h j (List.mem_range.1 hj)
theorem range_split {k n : Nat} (hk : k < n) : ∃ r, List.range n = List.range k ++ k :: r := by
  refine ⟨(List.range n).drop (k + 1), ?_⟩
  have h := List.take_append_drop k (List.range n)
  rw [List.drop_eq_getElem_cons (by simpa using hk)] at h
  rw [List.take_range, Nat.min_eq_left (Nat.le_of_lt hk)] at h
  simpa using h.symm
theorem firstE_at {f : Nat → Int} {n k : Nat} (hk : k < n) (h : ∀ j, j < k → f j = 0) (he : f k ≠ 0) : firstE f n = f k := by
  obtain ⟨r, hr⟩ := range_split hk
  unfold firstE
  rw [hr, List.map_append, List.map_cons]
  exact firstErr_at (fun x hx => by
    obtain ⟨j, hj, rfl⟩ := List.mem_map.1 hx
    exact h j (List.mem_range.1 hj)) he
theorem firstI_all {f : Nat → Int} {n : Nat} (h : ∀ j, j < n → f j = 0) : firstI f n = 0 := by
  unfold firstI
  rw [List.find?_eq_none.2 fun j hj => by simp [h j (List.mem_range.1 hj)]]
  rfl
theorem firstI_at {f : Nat → Int} {n k : Nat} (hk : k < n) (h : ∀ j, j < k → f j = 0) (he : f k ≠ 0) : firstI f n = k := by
  obtain ⟨r, hr⟩ := range_split hk
  unfold firstI
  rw [hr, List.find?_append, List.find?_eq_none.2 fun j hj => by simp [h j (List.mem_range.1 hj)]]
  simp [he]
theorem firstE_cases (f : Nat → Int) (n : Nat) : (∀ j, j < n → f j = 0) ∨ ∃ k, k < n ∧ (∀ j, j < k → f j = 0) ∧ f k ≠ 0 := by
  induction n with
  | zero => exact .inl fun j hj => absurd hj (by omega)
  | succ n ih =>
    rcases ih with h | ⟨k, h1, h2, h3⟩
    · by_cases e : f n = 0
      · refine .inl fun j hj => ?_
        by_cases hjn : j = n
        · rw [hjn]; exact e
        · exact h j (by omega)
      · exact .inr ⟨n, by omega, h, e⟩
    · exact .inr ⟨k, by omega, h2, h3⟩

open Classical in
/-- What is wrong of a field's key. -/
noncomputable def keyE (fs : List Fl) (j : Nat) : Int :=
  match fs[j]? with
  | none => 0
  | some x => if uok uq0 (sbytes x.key) = false then 6 else if 1021 < x.key.size then 4 else if x.key ∈ (fs.take j).map Fl.key then 14 else 0
open Classical in
theorem keyE_some {fs : List Fl} {j : Nat} {x : Fl} (h : fs[j]? = some x) : keyE fs j = if uok uq0 (sbytes x.key) = false then 6 else if 1021 < x.key.size then 4 else if x.key ∈ (fs.take j).map Fl.key then 14 else 0 := by
  unfold keyE; rw [h]
noncomputable def keysN (fs : List Fl) : Int := firstE (keyE fs) fs.length
/-- The nodes that a node names. -/
def namedN (x : Nd) : List Int := x.l ++ x.f.map Fl.node
def nameB (i m t : Int) : Bool := decide (t ≤ i) || decide (m ≤ t)
def nameE (x : Nd) (i m : Int) : Int := if (namedN x).any (nameB i m) then 13 else 0
def rangedN (x : Nd) : Bool :=
  if x.k = 2 ∨ x.k = 3 ∨ x.k = 6 then decide (0 ≤ x.lo) && decide (x.lo ≤ x.hi) else if x.k = 1 then decide (x.lo ≤ x.hi) else if x.k = 9 then decide (0 ≤ x.lo) else true
def valuedN (ch : It → Int) (v : It) : Bool := (decide (v.k = 0) || decide (v.k = 1) || decide (v.k = 2) || decide (v.k = 3) || decide (v.k = 7)) && decide (ch v = 0)
noncomputable def formN (ch : It → Int) (x : Nd) : Bool :=
  if x.k = 1 ∨ x.k = 2 ∨ x.k = 3 then sameN { x with lo := 0, hi := 0 } (Nd.of x.k)
  else if x.k = 4 then valuedN ch x.v && sameN { x with v := zIt } (Nd.of x.k)
  else if x.k = 8 then sameN { x with f := [] } (Nd.of x.k)
  else if x.k = 6 then decide (x.l.length = 1) && sameN { x with lo := 0, hi := 0, l := [] } (Nd.of x.k)
  else if x.k = 9 then decide (x.l.length = 1) && sameN { x with lo := 0, l := [] } (Nd.of x.k)
  else if x.k = 10 then decide (1 ≤ x.l.length) && sameN { x with l := [] } (Nd.of x.k)
  else if x.k = 7 then sameN { x with l := [] } (Nd.of x.k)
  else sameN x (Nd.of x.k)
/-- What is wrong of node number i of m. -/
noncomputable def wrongN (ch : It → Int) (x : Nd) (i m : Int) : Int :=
  if x.k < 0 ∨ 10 < x.k then 18 else if formN ch x = false then 11 else if rangedN x = false then 15 else if keysN x.f ≠ 0 then keysN x.f else nameE x i m
noncomputable def errN (ch : It → Int) (xs : List Nd) (i : Nat) : Int := match xs[i]? with | none => 0 | some x => wrongN ch x i xs.length
theorem errN_some {ch : It → Int} {xs : List Nd} {i : Nat} {x : Nd} (h : xs[i]? = some x) : errN ch xs i = wrongN ch x i xs.length := by unfold errN; rw [h]
noncomputable def checkE (ch : It → Int) (xs : List Nd) : Int := if xs.length < 1 ∨ 256 < xs.length then 16 else firstE (errN ch xs) xs.length
noncomputable def checkI (ch : It → Int) (xs : List Nd) : Nat := if xs.length < 1 ∨ 256 < xs.length then 0 else firstI (errN ch xs) xs.length
end Go.Proofs.Ytgbbgdjdomkohaa

/- Who leads to whom: plain. -/
namespace Go.Proofs.Ytgbbgdjdomkohaa

/-- Node a leads to node b, or is it. -/
inductive Ld (xs : List Nd) : Nat → Nat → Prop
  | refl (a : Nat) : Ld xs a a
  | step {a t b : Nat} {x : Nd} (hx : xs[a]? = some x) (ht : (t : Int) ∈ namedN x) (h : Ld xs t b) : Ld xs a b
/-- Nodes name later ones, all of them there. -/
def Wf (xs : List Nd) : Prop := ∀ (i : Nat) (x : Nd), xs[i]? = some x → ∀ t ∈ namedN x, (i : Int) < t ∧ t < xs.length
section
variable {xs : List Nd}
theorem Ld.le (hw : Wf xs) {a b : Nat} (h : Ld xs a b) : a ≤ b := by
  induction h with
  | refl a => exact Nat.le_refl _
  | step hx ht _ ih => have := (hw _ _ hx _ ht).1; omega
theorem Ld.snoc {a b c : Nat} {x : Nd} (h : Ld xs a b) (hx : xs[b]? = some x) (hc : (c : Int) ∈ namedN x) : Ld xs a c := by
  induction h with
  | refl a => exact .step hx hc (.refl _)
  | step hx' ht _ ih => exact .step hx' ht (ih hx)
/-- The last step. -/
theorem Ld.last {a b : Nat} (h : Ld xs a b) : b = a ∨ ∃ c x, Ld xs a c ∧ xs[c]? = some x ∧ (b : Int) ∈ namedN x := by
  induction h with
  | refl a => exact .inl rfl
  | @step a t b x hx ht h ih =>
    rcases ih with rfl | ⟨c, y, h1, h2, h3⟩
    · exact .inr ⟨a, x, .refl _, hx, ht⟩
    · exact .inr ⟨c, y, .step hx ht h1, h2, h3⟩
theorem Ld.first (hw : Wf xs) {a b : Nat} {x : Nd} (hx : xs[a]? = some x) : Ld xs a b ↔ a = b ∨ ∃ t ∈ namedN x, t ≤ (b : Int) ∧ Ld xs t.toNat b := by
  constructor
  · intro h
    cases h with
    | refl => exact .inl rfl
    | @step _ t _ y hy ht h =>
      rw [hx] at hy
      injection hy with hy
      subst hy
      have := h.le hw
      exact .inr ⟨t, ht, by omega, by simpa using h⟩
  · rintro (rfl | ⟨t, ht, _, h⟩)
    · exact .refl _
    · have := (hw _ _ hx _ ht).1
      exact .step (t := t.toNat) hx (by rw [Int.toNat_of_nonneg (by omega)]; exact ht) h
open Classical in
noncomputable def ldB (xs : List Nd) (a b : Nat) : Bool := decide (Ld xs a b)
theorem ldB_true {a b : Nat} : ldB xs a b = true ↔ Ld xs a b := by simp [ldB]
theorem ldB_false {a b : Nat} : ldB xs a b = false ↔ ¬ Ld xs a b := by simp [ldB]
/-- The nodes to which a leads, of the first k. -/
noncomputable def ldL (xs : List Nd) (a k : Nat) : List Int := ((List.range k).filter (ldB xs a)).map fun j : Nat => (j : Int)
theorem ldL_zero (a : Nat) : ldL xs a 0 = [] := rfl
theorem ldL_yes {a k : Nat} (h : ldB xs a k = true) : ldL xs a (k + 1) = ldL xs a k ++ [(k : Int)] := by
  unfold ldL
  rw [List.range_succ, List.filter_append, List.map_append]
  simp [h]
theorem ldL_no {a k : Nat} (h : ldB xs a k = false) : ldL xs a (k + 1) = ldL xs a k := by
  unfold ldL
  rw [List.range_succ, List.filter_append, List.map_append]
  simp [h]
theorem ldL_below (hw : Wf xs) {a : Nat} : ∀ k, k ≤ a → ldL xs a k = []
  | 0, _ => rfl
  | k + 1, h => by
    rw [ldL_no (ldB_false.2 fun hl => by have := hl.le hw; omega)]
    exact ldL_below hw k (by omega)
theorem length_ldL (a k : Nat) : (ldL xs a k).length ≤ k := by
  unfold ldL
  rw [List.length_map]
  exact Nat.le_trans (List.length_filter_le _ _) (by simp)
/-- What stands in the table when the first k have been looked at. -/
def Led (xs : List Nd) (a k j : Nat) : Prop := j = a ∨ ∃ c x, c < k ∧ Ld xs a c ∧ xs[c]? = some x ∧ (j : Int) ∈ namedN x
theorem led_at (hw : Wf xs) {a k : Nat} : Led xs a k k ↔ Ld xs a k := by
  constructor
  · rintro (rfl | ⟨c, x, _, h, hx, hc⟩)
    · exact .refl _
    · exact h.snoc hx hc
  · intro h
    rcases h.last with rfl | ⟨c, x, h1, h2, h3⟩
    · exact .inl rfl
    · have := (hw _ _ h2 _ h3).1
      exact .inr ⟨c, x, by omega, h1, h2, h3⟩
theorem led_start {a j : Nat} (hw : Wf xs) : Led xs a a j ↔ j = a := by
  constructor
  · rintro (rfl | ⟨c, x, hc, h, _, _⟩)
    · rfl
    · have := h.le hw; omega
  · rintro rfl; exact .inl rfl
theorem led_no {a k j : Nat} (h : ¬ Ld xs a k) : Led xs a (k + 1) j ↔ Led xs a k j := by
  constructor
  · rintro (rfl | ⟨c, x, hc, h1, h2, h3⟩)
    · exact .inl rfl
    · refine .inr ⟨c, x, ?_, h1, h2, h3⟩
      have : c ≠ k := fun e => h (e ▸ h1)
      omega
  · rintro (rfl | ⟨c, x, hc, h⟩)
    · exact .inl rfl
    · exact .inr ⟨c, x, by omega, h⟩
theorem led_yes {a k j : Nat} {x : Nd} (h : Ld xs a k) (hx : xs[k]? = some x) : Led xs a (k + 1) j ↔ Led xs a k j ∨ (j : Int) ∈ namedN x := by
  constructor
  · rintro (rfl | ⟨c, y, hc, h1, h2, h3⟩)
    · exact .inl (.inl rfl)
    · by_cases e : c = k
      · subst e
        rw [hx] at h2
        injection h2 with h2
        subst h2
        exact .inr h3
      · exact .inl (.inr ⟨c, y, by omega, h1, h2, h3⟩)
  · rintro ((rfl | ⟨c, y, hc, h1⟩) | hj)
    · exact .inl rfl
    · exact .inr ⟨c, y, by omega, h1⟩
    · exact .inr ⟨k, x, by omega, h, hx, hj⟩
theorem wf_of {ch : It → Int} (h : checkE ch xs = 0) : Wf xs := by
  intro i x hx t ht
  have hi := (List.getElem?_eq_some_iff.1 hx).1
  unfold checkE at h
  split at h
  · cases h
  · have he : errN ch xs i = 0 := by
      rcases firstE_cases (errN ch xs) xs.length with h0 | ⟨k, hk, h0, h1⟩
      · exact h0 i hi
      · rw [firstE_at hk h0 h1] at h
        exact absurd h h1
    rw [errN_some hx] at he
    unfold wrongN at he
    split at he
    · cases he
    · split at he
      · cases he
      · split at he
        · cases he
        · split at he
          · contradiction
          · unfold nameE at he
            split at he
            · cases he
            · rename_i hn
              have : nameB i xs.length t = false := by
                cases hb : nameB i xs.length t
                · rfl
                · exact absurd (List.any_eq_true.2 ⟨t, ht, hb⟩) hn
              simp [nameB] at this
              omega
end
end Go.Proofs.Ytgbbgdjdomkohaa
