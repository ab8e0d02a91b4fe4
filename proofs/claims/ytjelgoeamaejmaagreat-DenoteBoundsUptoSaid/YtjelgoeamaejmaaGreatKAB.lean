/- Own words for memory: a slice that reads as numbers; a block that is known whole. -/
import Derived.WalkKit
import Derived.ProofKit
import Derived.OpenShut
import Derived.WalkLawsBesides
import Derived.WalkSpells
import Derived.Handy
import Derived.BigQuiet
import Derived.Lib.Hide
import Derived.Deep.QuietTactic
import Derived.Deep.LoopGhost
import Derived.Test.YtjelgoeamaejmaaGreatKAA
import Derived.Deep.MidRow
import Derived.WalkSmall
import Derived.Laws.IdiomCopy
namespace Go.Proofs.YtjelgoeamaejmaaGreat
open Go.RowKit

theorem ret_num {k : IntKind} {a b : Int} (h : a = b) : Ending.returned (.int k a) = .returned (.int k b) := by rw [h]

/-- In w the memory at A, below block B, reads as the numbers zs of kind k. -/
def Rd (w : World) (B : Nat) (k : IntKind) (A : Option Addr) (zs : List Int) : Prop :=
  0 < zs.length → ∃ b o, A = some ⟨b, o, none⟩ ∧ b < B ∧ ∀ i, i < zs.length → w.cell? ⟨b, o + i, none⟩ = some (.int k (zs.getD i 0))

section
variable {w w' : World} {B B' : Nat} {k : IntKind} {A : Option Addr} {zs : List Int}
theorem Rd.get (h : Rd w B k A zs) {i : Nat} (hi : i < zs.length) : ∃ b o, A = some ⟨b, o, none⟩ ∧ b < B ∧ w.cell? ⟨b, o + i, none⟩ = some (.int k (zs.getD i 0)) := by
  obtain ⟨b, o, hA, hb, hc⟩ := h (by omega)
  exact ⟨b, o, hA, hb, hc i hi⟩
theorem Rd.keep (h : Rd w B k A zs) (hk : ∀ p : Addr, p.block < B → w'.cell? p = w.cell? p) : Rd w' B k A zs := fun hn => by
  obtain ⟨b, o, hA, hb, hc⟩ := h hn
  exact ⟨b, o, hA, hb, fun i hi => (hk _ hb).trans (hc i hi)⟩
theorem Rd.more (h : Rd w B k A zs) (hB : B ≤ B') : Rd w B' k A zs := fun hn => by
  obtain ⟨b, o, hA, hb, hc⟩ := h hn
  exact ⟨b, o, hA, by omega, hc⟩
theorem Rd.below (h : Rd w B k A zs) (hb : Below B w w') : Rd w' B k A zs := h.keep fun _ hp => hb.cell hp
theorem Rd.drewN (h : Rd w B k A zs) (n : Nat) : Rd (w.drewN n) B k A zs := h
theorem Rd.drew (h : Rd w B k A zs) : Rd w.drew B k A zs := h
/-- Carried to a world in which nothing below the heap's old size has turned. -/
theorem Rd.on (h : Rd w w.heap.size k A zs) (hb : Below w.heap.size w w') : Rd w' w'.heap.size k A zs := (h.below hb).more hb.size
end

/-- Block g is just the cells cs. -/
def Blk (w : World) (g : Nat) (t : TypeId) (cs : Array Value) : Prop := w.heap[g]? = some (.cells cs t (0, 0))
section
variable {w w' : World} {B g : Nat} {t : TypeId} {cs : Array Value}
theorem Blk.lt (h : Blk w g t cs) : g < w.heap.size := (Array.getElem?_eq_some_iff.1 h).1
theorem Blk.cell (h : Blk w g t cs) (i : Nat) : w.cell? ⟨g, i, none⟩ = cs[i]? := cell_of_row w g i cs t (0, 0) h
theorem Blk.free (h : Blk w g t cs) (i : Nat) : w.frozen? ⟨g, i, none⟩ = false := by
  unfold Blk at h
  simp [World.frozen?, h]
theorem Blk.fresh (w : World) (t : TypeId) (cs : Array Value) : Blk (w.alloc (.cells cs t)) w.heap.size t cs := by
  show (w.heap.push _)[w.heap.size]? = _
  simp
theorem Blk.below (h : Blk w g t cs) (hb : Below B w w') (hg : g < B) : Blk w' g t cs := (hb.block g hg).trans h
theorem Blk.on (h : Blk w g t cs) (hb : Below w.heap.size w w') : Blk w' g t cs := h.below hb h.lt
theorem Blk.alloc (h : Blk w g t cs) (o : Obj) : Blk (w.alloc o) g t cs := (Below.heap_alloc w o g h.lt).trans h
theorem Blk.put (h : Blk w g t cs) (i : Nat) (u : Value) : Blk (w.setCell ⟨g, i, none⟩ u) g t (cs.setIfInBounds i u) := by
  unfold Blk at h ⊢
  simp [World.setCell, Array.getElem?_modify, h]
theorem Blk.far (h : Blk w g t cs) {p : Addr} (hp : g ≠ p.block) (u : Value) : Blk (w.setCell p u) g t cs := (Below.heap_setCell w p u g hp).trans h
end
/-- The cells of numbers. -/
def nums (k : IntKind) (zs : List Int) : Array Value := (zs.map (Value.int k)).toArray
theorem nums_get (k : IntKind) (zs : List Int) (i : Nat) (hi : i < zs.length) : (nums k zs)[i]? = some (.int k (zs.getD i 0)) := by
  simp [nums, List.getD, hi]
theorem Blk.rd {w : World} {g : Nat} {t : TypeId} {k : IntKind} {zs : List Int} (h : Blk w g t (nums k zs)) : Rd w w.heap.size k (some ⟨g, 0, none⟩) zs :=
  fun _ => ⟨g, 0, rfl, h.lt, fun i hi => by rw [Nat.zero_add, h.cell, nums_get k zs i hi]⟩
theorem nums_put (k : IntKind) (zs : List Int) (i : Nat) (u : Int) : (nums k zs).setIfInBounds i (.int k u) = nums k (zs.set i u) := by
  simp [nums, List.map_set]

/-- Between the worlds only block g has turned, and new ones have come. -/
def Only (g : Nat) (w w' : World) : Prop := w.grownBy w' (some g)
section
variable {w w' w'' : World} {B g : Nat}
theorem Only.refl (g : Nat) (w : World) : Only g w w := World.grownBy.refl w _
theorem Only.drew (h : Only g w w') : Only g w w'.drew := ⟨h.os, h.tape, h.output, h.size, h.block⟩
theorem Only.drewN (h : Only g w w') (n : Nat) : Only g w (w'.drewN n) := ⟨h.os, h.tape, h.output, h.size, h.block⟩
theorem Only.put (h : Only g w w') (o : Nat) (u : Value) : Only g w (w'.setCell ⟨g, o, none⟩ u) :=
  ⟨h.os, h.tape, h.output, by simpa [World.setCell] using h.size, fun i hi hne => (Below.heap_setCell w' _ u i (fun e => hne (by simp [e]))).trans (h.block i hi hne)⟩
theorem Only.trans (h : Only g w w') (k : Only g w' w'') : Only g w w'' :=
  ⟨k.os.trans h.os, k.tape.trans h.tape, k.output.trans h.output, Nat.le_trans h.size k.size, fun i hi hne => (k.block i (Nat.lt_of_lt_of_le hi h.size) hne).trans (h.block i hi hne)⟩
/-- If g is a block of the call's own. -/
theorem Only.below (h : Only g w w') (hB : B ≤ g) (hs : B ≤ w.heap.size) : Below B w w' :=
  ⟨h.os, h.tape, h.output, h.size, fun i hi => h.block i (by omega) (fun e => by injection e with e; omega)⟩
end
theorem below_alloc (w : World) (o : Obj) : Below w.heap.size w (w.alloc o) := (Below.refl _ _).alloc (Nat.le_refl _) o
end Go.Proofs.YtjelgoeamaejmaaGreat

/- Texts in UTF-8: the plain functions. -/
namespace Go.Proofs.YtjelgoeamaejmaaGreat
open Go.RowKit

/-- How far a sign has come: bytes to come, the bounds of the next one; gone wrong. -/
structure UQ where
  left : Nat
  lo : Int
  hi : Int
  wr : Bool
def uq0 : UQ := ⟨0, 0, 0, false⟩
def ulo (c : Int) : Int := if c = 224 then 160 else if c = 240 then 144 else 128
def uhi (c : Int) : Int := if c = 237 then 159 else if c = 244 then 143 else 191
/-- How many bytes follow a sign's first one; none: no sign begins so. -/
def umore (c : Int) : Option Nat := if 240 ≤ c ∧ c ≤ 244 then some 3 else if 224 ≤ c ∧ c ≤ 239 then some 2 else if 194 ≤ c ∧ c ≤ 223 then some 1 else if c ≤ 127 then some 0 else none
def ustep (q : UQ) (c : Int) : UQ :=
  if q.wr then q else if q.left = 0 then (match umore c with
    | some n => ⟨n, ulo c, uhi c, false⟩
    | none => { q with wr := true })
  else if c < q.lo ∨ q.hi < c then { q with wr := true } else ⟨q.left - 1, 128, 191, false⟩
def udone (q : UQ) : Bool := !q.wr && q.left == 0
def ucells (q : UQ) : Array Value := #[.int .i64 q.left, .int .u8 q.lo, .int .u8 q.hi, .bool q.wr]

def urun : UQ → List Int → UQ
  | q, [] => q
  | q, c :: r => urun (ustep q c) r
/-- The place of the first byte that can't stand there, counted from i; -1: none. -/
def uat : UQ → List Int → Nat → Int
  | _, [], _ => -1
  | q, c :: r, i => if (ustep q c).wr then i else uat (ustep q c) r (i + 1)
def uok (q : UQ) (l : List Int) : Bool := udone (urun q l)
/-- The bytes of a text. -/
def sbytes (s : ByteArray) : List Int := s.data.toList.map fun b => (b.toNat : Int)
def sb (s : ByteArray) (k : Nat) : Int := (sbytes s).getD k 0
theorem length_sbytes (s : ByteArray) : (sbytes s).length = s.size := by simp [sbytes]
theorem sb_range (s : ByteArray) (k : Nat) : 0 ≤ sb s k ∧ sb s k < 256 := by
  unfold sb sbytes
  rw [List.getD_eq_getElem?_getD, List.getElem?_map]
  cases s.data.toList[k]? with
  | none => simp
  | some b => have := b.toNat_lt; simp; omega
theorem sb_eq (s : ByteArray) (k : Nat) (h : k < s.size) : ((s[k]'h).toNat : Int) = sb s k := by
  have hl : k < s.data.toList.length := by simpa using h
  unfold sb sbytes
  rw [List.getD_eq_getElem?_getD, List.getElem?_map, List.getElem?_eq_getElem hl]
  rfl
/-- A text's byte is read. -/
theorem run_sb {P : Program} {t : TypeId} (ht : P.underlying t = some .string) (w : World) (s : ByteArray) (k : Nat) (h : k < s.size) (i : Int) (hi : i = k) : (Instr.index t (.string s) (.int .i64 i)).run P w = .ok (.int .u8 (sb s k)) w := by
  subst hi
  rw [run_index_string w t s .i64 k ht, dif_pos (by omega)]
  show Result.ok (Value.int .u8 ((s[(k : Int).toNat]'_).toNat : Int)) w = _
  rw [show ((s[(k : Int).toNat]'(by omega)).toNat : Int) = ((s[k]'h).toNat : Int) from rfl, sb_eq]
end Go.Proofs.YtjelgoeamaejmaaGreat

/- Schemas as plain tables: what is wrong of a node, and which node is the first. -/
namespace Go.Proofs.YtjelgoeamaejmaaGreat

/-- A field: its key, its node, whether it may lack. -/
structure Fl where
  key : ByteArray
  node : Int
  opt : Bool
/-- A node. -/
structure Nd where
  k : Int
  lo : Int
  hi : Int
  v : It
  l : List Int
  f : List Fl
theorem Fl.eq_iff {a b : Fl} : a = b ↔ a.key = b.key ∧ a.node = b.node ∧ a.opt = b.opt := by
  cases a; cases b; simp
theorem Nd.eq_iff {a b : Nd} : a = b ↔ a.k = b.k ∧ a.lo = b.lo ∧ a.hi = b.hi ∧ a.v = b.v ∧ a.l = b.l ∧ a.f = b.f := by
  cases a; cases b; simp
def zIt : It := .mk 0 0 ⟨#[]⟩ []
/-- The node of a kind that has nothing else. -/
def Nd.of (k : Int) : Nd := ⟨k, 0, 0, zIt, [], []⟩
open Classical in
noncomputable def sameN (a b : Nd) : Bool := decide (a = b)
theorem sameN_true {a b : Nd} : sameN a b = true ↔ a = b := by simp [sameN]
theorem sameN_false {a b : Nd} : sameN a b = false ↔ a ≠ b := by simp [sameN]
theorem sameN_refl (a : Nd) : sameN a a = true := sameN_true.2 rfl
theorem sameN_of {a b : Nd} {r : Bool} (h : r = true ↔ a = b) : sameN a b = r := by
  cases r
  · exact sameN_false.2 fun e => by simpa using h.2 e
  · exact sameN_true.2 (h.1 rfl)
open Classical in
/-- All nodes alike? -/
noncomputable def sameS (a b : List Nd) : Bool := decide (a = b)
theorem sameS_true {a b : List Nd} : sameS a b = true ↔ a = b := by simp [sameS]
theorem sameS_refl (a : List Nd) : sameS a a = true := sameS_true.2 rfl
theorem sameS_of {a b : List Nd} {r : Bool} (h : r = true ↔ a = b) : sameS a b = r := by
  cases r
  · simp only [sameS, decide_eq_false_iff_not]
    exact fun e => by simpa using h.2 e
  · exact sameS_true.2 (h.1 rfl)

/-- The first that isn't 0, of n. -/
def firstE (f : Nat → Int) (n : Nat) : Int := firstErr ((List.range n).map f)
/-- .. its number. -/
def firstI (f : Nat → Int) (n : Nat) : Nat := ((List.range n).find? fun j => decide (f j ≠ 0)).getD 0
theorem firstE_all {f : Nat → Int} {n : Nat} (h : ∀ j, j < n → f j = 0) : firstE f n = 0 := firstErr_all fun x hx => by
  obtain ⟨j, hj, rfl⟩ := List.mem_map.1 hx
  exact h j (List.mem_range.1 hj)
theorem range_split {k n : Nat} (hk : k < n) : ∃ r, List.range n = List.range k ++ k :: r := by
  refine ⟨(List.range n).drop (k + 1), ?_⟩
  have h := List.take_append_drop k (List.range n)
  rw [List.drop_eq_getElem_cons (by simpa using hk)] at h
  rw [List.take_range, Nat.min_eq_left (Nat.le_of_lt hk)] at h
  simpa using h.symm
theorem firstE_at {f : Nat → Int} {n k : Nat} (hk : k < n) (h : ∀ j, j < k → f j = 0) (he : f k ≠ 0) : firstE f n = f k := by
  obtain ⟨r, hr⟩ := range_split hk
  unfold firstE
  rw [hr, List.map_append, List.map_cons]
  exact firstErr_at (fun x hx => by
    obtain ⟨j, hj, rfl⟩ := List.mem_map.1 hx
    exact h j (List.mem_range.1 hj)) he
theorem firstI_all {f : Nat → Int} {n : Nat} (h : ∀ j, j < n → f j = 0) : firstI f n = 0 := by
  unfold firstI
  rw [List.find?_eq_none.2 fun j hj => by simp [h j (List.mem_range.1 hj)]]
  rfl
theorem firstI_at {f : Nat → Int} {n k : Nat} (hk : k < n) (h : ∀ j, j < k → f j = 0) (he : f k ≠ 0) : firstI f n = k := by
  obtain ⟨r, hr⟩ := range_split hk
  unfold firstI
  rw [hr, List.find?_append, List.find?_eq_none.2 fun j hj => by simp [h j (List.mem_range.1 hj)]]
  simp [he]
theorem firstE_cases (f : Nat → Int) (n : Nat) : (∀ j, j < n → f j = 0) ∨ ∃ k, k < n ∧ (∀ j, j < k → f j = 0) ∧ f k ≠ 0 := by
  induction n with
  | zero => exact .inl fun j hj => absurd hj (by omega)
  | succ n ih =>
    rcases ih with h | ⟨k, h1, h2, h3⟩
    · by_cases e : f n = 0
      · refine .inl fun j hj => ?_
        by_cases hjn : j = n
        · rw [hjn]; exact e
        · exact h j (by omega)
      · exact .inr ⟨n, by omega, h, e⟩
    · exact .inr ⟨k, by omega, h2, h3⟩

open Classical in
/-- What is wrong of a field's key. -/
noncomputable def keyE (fs : List Fl) (j : Nat) : Int :=
  match fs[j]? with
  | none => 0
  | some x => if uok uq0 (sbytes x.key) = false then 6 else if 1021 < x.key.size then 4 else if x.key ∈ (fs.take j).map Fl.key then 14 else 0
open Classical in
theorem keyE_some {fs : List Fl} {j : Nat} {x : Fl} (h : fs[j]? = some x) : keyE fs j = if uok uq0 (sbytes x.key) = false then 6 else if 1021 < x.key.size then 4 else if x.key ∈ (fs.take j).map Fl.key then 14 else 0 := by
  unfold keyE; rw [h]
noncomputable def keysN (fs : List Fl) : Int := firstE (keyE fs) fs.length
/-- The nodes that a node names. -/
def namedN (x : Nd) : List Int := x.l ++ x.f.map Fl.node
def nameB (i m t : Int) : Bool := decide (t ≤ i) || decide (m ≤ t)
def nameE (x : Nd) (i m : Int) : Int := if (namedN x).any (nameB i m) then 13 else 0
def rangedN (x : Nd) : Bool :=
  if x.k = 2 ∨ x.k = 3 ∨ x.k = 6 then decide (0 ≤ x.lo) && decide (x.lo ≤ x.hi) else if x.k = 1 then decide (x.lo ≤ x.hi) else if x.k = 9 then decide (0 ≤ x.lo) else true
def valuedN (ch : It → Int) (v : It) : Bool := (decide (v.k = 0) || decide (v.k = 1) || decide (v.k = 2) || decide (v.k = 3) || decide (v.k = 7)) && decide (ch v = 0)
noncomputable def formN (ch : It → Int) (x : Nd) : Bool :=
  if x.k = 1 ∨ x.k = 2 ∨ x.k = 3 then sameN { x with lo := 0, hi := 0 } (Nd.of x.k)
  else if x.k = 4 then valuedN ch x.v && sameN { x with v := zIt } (Nd.of x.k)
  else if x.k = 8 then sameN { x with f := [] } (Nd.of x.k)
  else if x.k = 6 then decide (x.l.length = 1) && sameN { x with lo := 0, hi := 0, l := [] } (Nd.of x.k)
  else if x.k = 9 then decide (x.l.length = 1) && sameN { x with lo := 0, l := [] } (Nd.of x.k)
  else if x.k = 10 then decide (1 ≤ x.l.length) && sameN { x with l := [] } (Nd.of x.k)
  else if x.k = 7 then sameN { x with l := [] } (Nd.of x.k)
  else sameN x (Nd.of x.k)
/-- What is wrong of node number i of m. -/
noncomputable def wrongN (ch : It → Int) (x : Nd) (i m : Int) : Int :=
  if x.k < 0 ∨ 10 < x.k then 18 else if formN ch x = false then 11 else if rangedN x = false then 15 else if keysN x.f ≠ 0 then keysN x.f else nameE x i m
noncomputable def errN (ch : It → Int) (xs : List Nd) (i : Nat) : Int := match xs[i]? with | none => 0 | some x => wrongN ch x i xs.length
theorem errN_some {ch : It → Int} {xs : List Nd} {i : Nat} {x : Nd} (h : xs[i]? = some x) : errN ch xs i = wrongN ch x i xs.length := by unfold errN; rw [h]
noncomputable def checkE (ch : It → Int) (xs : List Nd) : Int := if xs.length < 1 ∨ 256 < xs.length then 16 else firstE (errN ch xs) xs.length
noncomputable def checkI (ch : It → Int) (xs : List Nd) : Nat := if xs.length < 1 ∨ 256 < xs.length then 0 else firstI (errN ch xs) xs.length
end Go.Proofs.YtjelgoeamaejmaaGreat

/- Blocks that are known whole: an array read out of one, an array laid into one. -/
namespace Go.Proofs.YtjelgoeamaejmaaGreat
open Go.RowKit

section
variable {w w' : World} {B g o : Nat} {t : TypeId} {cs : Array Value}
theorem Blk.setRow (h : Blk w g t cs) (cs' : Array Value) : Blk (w.setRow g cs') g t cs' := setRow_heap w g cs cs' t _ h
theorem setRow_far (w : World) {g i : Nat} (cs : Array Value) (h : i ≠ g) : (w.setRow g cs).heap[i]? = w.heap[i]? := by
  show (w.heap.modify g _)[i]? = _
  rw [Array.getElem?_modify, if_neg (fun e => h e.symm)]
theorem Blk.farRow (h : Blk w g t cs) {i : Nat} (hi : g ≠ i) (cs' : Array Value) : Blk (w.setRow i cs') g t cs := (setRow_far w cs' hi).trans h
theorem Blk.drew (h : Blk w g t cs) : Blk w.drew g t cs := h
theorem Blk.drewN (h : Blk w g t cs) (n : Nat) : Blk (w.drewN n) g t cs := h
theorem Blk.only {j : Nat} (h : Blk w g t cs) (ho : Only j w w') (hj : g ≠ j) : Blk w' g t cs := (ho.block g h.lt (fun e => hj (by injection e))).trans h
theorem Only.setRow {w0 : World} (h : Only g w0 w) (cs : Array Value) : Only g w0 (w.setRow g cs) :=
  ⟨h.os, h.tape, h.output, by rw [size_setRow]; exact h.size, fun i hi hne => (setRow_far w cs (fun e => hne (by rw [e]))).trans (h.block i hi hne)⟩
theorem Only.alloc {w0 : World} (h : Only g w0 w) (ob : Obj) : Only g w0 (w.alloc ob) :=
  ⟨h.os, h.tape, h.output, by have := h.size; simp; omega, fun i hi hne => (Below.heap_alloc w ob i (Nat.lt_of_lt_of_le hi h.size)).trans (h.block i hi hne)⟩
theorem below_row {w0 : World} (h : Below B w0 w) (hg : B ≤ g) (cs : Array Value) : Below B w0 (w.setRow g cs) :=
  ⟨h.os, h.tape, h.output, by rw [size_setRow]; exact h.size, fun i hi => (setRow_far w cs (by omega)).trans (h.block i hi)⟩
theorem below_drawn {w0 : World} (h : Below B w0 w) : Below B w0 w.drew := ⟨h.os, h.tape, h.output, h.size, h.block⟩
theorem below_drawnN {w0 : World} (h : Below B w0 w) (n : Nat) : Below B w0 (w.drewN n) := ⟨h.os, h.tape, h.output, h.size, h.block⟩
theorem Only.ofBelow (h : Below w.heap.size w w') : Only g w w' := ⟨h.os, h.tape, h.output, h.size, fun i hi _ => h.block i hi⟩
theorem Only.more {w'' : World} (h : Only g w w') (hb : Below w'.heap.size w' w'') : Only g w w'' := h.trans (Only.ofBelow hb)
/-- What is done to a block of the call's own turns nothing that was there. -/
theorem Only.own (h : Only g w w') (hg : w.heap.size ≤ g) : Below w.heap.size w w' := h.below hg (Nat.le_refl _)
theorem Only.size' (h : Only g w w') : w.heap.size ≤ w'.heap.size := h.size
/-- A write into a newer block does not turn an older world. -/
theorem Only.under {w0 : World} {j : Nat} (h : Only g w0 w) (k : Only j w w') (hj : w0.heap.size ≤ j ∨ j = g) : Only g w0 w' :=
  ⟨k.os.trans h.os, k.tape.trans h.tape, k.output.trans h.output, Nat.le_trans h.size k.size, fun i hi hne => (k.block i (Nat.lt_of_lt_of_le hi h.size) (fun e => by
    injection e with e
    rcases hj with hj | hj
    · omega
    · exact hne (by rw [hj] at e; rw [e]))).trans (h.block i hi hne)⟩
end

theorem Blk.freshAt (w : World) (t : TypeId) (cs : Array Value) (n : Nat) (hn : n = w.heap.size) : Blk (w.alloc (.cells cs t)) n t cs := by subst hn; exact Blk.fresh w t cs
theorem nums_size (k : IntKind) (zs : List Int) : (nums k zs).size = zs.length := by simp [nums]
theorem nums_toList (k : IntKind) (zs : List Int) : (nums k zs).toList = zs.map (Value.int k) := rfl
theorem nums_append (k : IntKind) (a b : List Int) : nums k a ++ nums k b = nums k (a ++ b) := by simp [nums]
theorem nums_one (k : IntKind) (zs : List Int) : (nums k zs).all (·.oneCell') = true := by
  rw [Array.all_eq_true_iff_forall_mem]
  intro v hv
  simp only [nums, List.mem_toArray, List.mem_map] at hv
  obtain ⟨_, _, rfl⟩ := hv
  rfl

section
variable {P : Program}
/-- The array of type ty that lies in block g from o on is read. -/
theorem run_load_blk {w : World} {g o : Nat} {t ty : TypeId} {cs a b : Array Value} {c : Array Value} {d : TypeDesc} (h : Blk w g t cs) (hcs : cs = a ++ c ++ b) (ho : a.size = o)
    (hu : P.underlying ty = some d) (hd : d.isRow = true) (hi : (P.info? ty).map (·.size) = some c.size) :
    (Instr.loadAt ty (.pointer (some ⟨g, o, none⟩))).run P w = .ok (.agg c) w := by
  have := run_loadAt_mid (P := P) w g o ty c.toList d (fun j v hv => by
    rw [h.cell, hcs]
    have hj : j < c.size := by
      rcases Nat.lt_or_ge j c.size with h | h
      · exact h
      · rw [List.getElem?_eq_none (by simpa using h)] at hv; cases hv
    rw [Array.getElem?_append_left (by simp; omega), Array.getElem?_append_right (by omega), show o + j - a.size = j by omega, ← hv]
    simp) hu hd (by simpa using hi)
  simpa using this
/-- An array is laid into block g from o on. -/
theorem run_store_blk {w : World} {g o : Nat} {t ty : TypeId} {cs a b c c' : Array Value} (h : Blk w g t cs) (hcs : cs = a ++ c ++ b) (ho : a.size = o)
    (hi : (P.info? ty).map (·.size) = some c'.size) (hc : c.size = c'.size) (h1 : c'.all (·.oneCell') = true) :
    (Instr.storeAt ty (.pointer (some ⟨g, o, none⟩)) (.agg c')).run P w = .ok () (w.setRow g (a ++ c' ++ b)) := by
  have := run_storeCells_at P g o t c'.toList 0 cs w h (by rw [hcs]; simp; omega) (fun v hv => (Array.all_eq_true_iff_forall_mem.1 h1) v (by simpa using hv))
  have e : (List.take (o + 0) cs.toList ++ c'.toList ++ List.drop (o + 0 + c'.toList.length) cs.toList).toArray = a ++ c' ++ b := by
    rw [hcs]
    apply Array.ext'
    simp only [Array.toList_append, Array.length_toList, Nat.add_zero]
    rw [List.append_assoc a.toList, List.take_append_of_le_length (by simp; omega), List.take_of_length_le (by simp; omega), ← List.append_assoc a.toList, List.drop_append_of_le_length (by simp; omega), List.drop_eq_nil_of_le (by simp; omega)]
    simp
  rw [e] at this
  cases hq : P.info? ty with
  | none => simp [hq] at hi
  | some i =>
    have hs : c'.size = i.size := by simp [hq] at hi; omega
    simp [Instr.storeAt, Instr.sureAddr, storeVar, sizeOf, typeInfo, hq, Value.cells, hs, this]
/-- The whole block. -/
theorem run_load_all {w : World} {g : Nat} {t ty : TypeId} {cs : Array Value} {d : TypeDesc} (h : Blk w g t cs) (hu : P.underlying ty = some d) (hd : d.isRow = true) (hi : (P.info? ty).map (·.size) = some cs.size) :
    (Instr.loadAt ty (.pointer (some ⟨g, 0, none⟩))).run P w = .ok (.agg cs) w := run_load_blk (a := #[]) (b := #[]) h (by simp) rfl hu hd hi
theorem run_store_all {w : World} {g : Nat} {t ty : TypeId} {cs c' : Array Value} (h : Blk w g t cs) (hi : (P.info? ty).map (·.size) = some c'.size) (hc : cs.size = c'.size) (h1 : c'.all (·.oneCell') = true) :
    (Instr.storeAt ty (.pointer (some ⟨g, 0, none⟩)) (.agg c')).run P w = .ok () (w.setRow g c') := by
  have := run_store_blk (P := P) (a := #[]) (b := #[]) h (by simp) rfl hi hc h1
  simpa using this
theorem results_blk {fn : Func} {p : Tmp} {ty : TypeId} (h : fn.results = #[.cell p ty]) (tmps : Array Value) {w : World} {g : Nat} {t : TypeId} {cs : Array Value} {d : TypeDesc} (hp : tmps.getD p undef = .pointer (some ⟨g, 0, none⟩))
    (hg : Blk w g t cs) (hu : P.underlying ty = some d) (hd : d.isRow = true) (hi : (P.info? ty).map (·.size) = some cs.size) : (results fn tmps).run P w = .ok (.agg cs) w :=
  results_cell_row h tmps w g t cs (0, 0) d hp hg hu (by cases d <;> simp_all [TypeDesc.isRow]) hi
/-- A slice of an array of small cells, from l on. -/
theorem run_slice_arr {t elem : TypeId} {n : Nat} (hu : P.underlying t = some (.array n elem)) (hs : (P.info? elem).map (·.size) = some 1) (w : World) (g o l : Nat) (li : Int) (hli : li = l) (hl : l < n) :
    (Instr.sliceAt t (.pointer (some ⟨g, o, none⟩)) (some (.int .i64 li)) none none).run P w = .ok (.slice (some ⟨g, o + l, none⟩) (n - l) (n - l)) w := by
  subst hli
  have hz : ∀ w, (sizeOf elem).run P w = .ok 1 w := fun w => by
    cases hq : P.info? elem with
    | none => simp [hq] at hs
    | some i =>
      have : i.size = 1 := by simpa [hq] using hs
      simp [sizeOf, typeInfo, hq, this]
  have hne : ¬ n = l := by omega
  have ha : (⟨g, o, none⟩ : Addr).add l = ⟨g, o + l, none⟩ := Addr.add_mid g o l
  simp [Instr.sliceAt, Instr.sureAddr, run_underlying hu, Instr.sliceBounds, run_sliceBound, hz, hne, ha, show (l : Int) ≤ n by omega]
/-- Guards of arms: they pass at one kind of operation alone. -/
theorem is_load {ops : Array Oper} {rest : List Oper} {o : Oper} {a : Act} {w : World} {Q : Exit → Act → World → Prop} (ty : TypeId) {x : Operand} (_ho : o.op = .load ty x) (h : wpList P ops Q (o :: rest) a w) : wpList P ops Q (o :: rest) a w := h
theorem is_store {ops : Array Oper} {rest : List Oper} {o : Oper} {a : Act} {w : World} {Q : Exit → Act → World → Prop} (ty : TypeId) {x y : Operand} (_ho : o.op = .store ty x y) (h : wpList P ops Q (o :: rest) a w) : wpList P ops Q (o :: rest) a w := h
theorem is_append {ops : Array Oper} {rest : List Oper} {o : Oper} {a : Act} {w : World} {Q : Exit → Act → World → Prop} (t : TypeId) {s x : Operand} (_ho : o.op = .call { callee := .builtin .append, args := #[s, x], argTypes := #[t, t] }) (h : wpList P ops Q (o :: rest) a w) : wpList P ops Q (o :: rest) a w := h
/-- For an arm of the walk: a load, a store whose run is known. -/
theorem wpList_load_run {ops : Array Oper} {rest : List Oper} {o : Oper} {a : Act} {w : World} {Q : Exit → Act → World → Prop} (hgd : o.guard = none) {ty : TypeId} {x : Operand} (ho : o.op = .load ty x)
    {p v : Value} (hr : (Instr.loadAt ty p).run P w = .ok v w) (hx : a.eval x = p) (h : wpList P ops Q rest (a.put o.dst v) w) : wpList P ops Q (o :: rest) a w :=
  wpList_plain hgd fun K hK => by
    unfold Oper.wp execOp
    simp only [ho, hx, Sem.run_bind, Sem.run_pure, Result.andThen_ok, hr]
    exact hK _ _ h
theorem wpList_store_run {ops : Array Oper} {rest : List Oper} {o : Oper} {a : Act} {w w' : World} {Q : Exit → Act → World → Prop} (hgd : o.guard = none) {ty : TypeId} {x y : Operand} (ho : o.op = .store ty x y)
    {p v : Value} (hr : (Instr.storeAt ty p v).run P w = .ok () w') (hx : a.eval x = p) (hy : a.eval y = v) (h : wpList P ops Q rest (a.put o.dst undef) w') : wpList P ops Q (o :: rest) a w :=
  wpList_plain hgd fun K hK => by
    unfold Oper.wp execOp
    simp only [ho, hx, hy, Sem.run_bind, Sem.run_pure, Result.andThen_ok, hr]
    exact hK _ _ h
end
end Go.Proofs.YtjelgoeamaejmaaGreat

/- Slices that are cut and copied, whatever their memory, if it isn't that of block g. -/
namespace Go.Proofs.YtjelgoeamaejmaaGreat
open Go.RowKit

/-- In w the memory at A, in no way in block g, reads as the numbers zs of kind k. -/
def RdX (w : World) (g : Nat) (k : IntKind) (A : Option Addr) (zs : List Int) : Prop :=
  0 < zs.length → ∃ b o, A = some ⟨b, o, none⟩ ∧ b ≠ g ∧ b < w.heap.size ∧ ∀ i, i < zs.length → w.cell? ⟨b, o + i, none⟩ = some (.int k (zs.getD i 0))
section
variable {w w' : World} {B g : Nat} {k : IntKind} {A : Option Addr} {zs : List Int}
theorem RdX.only (h : RdX w g k A zs) (ho : Only g w w') : RdX w' g k A zs := fun hn => by
  obtain ⟨b, o, hA, hb, hs, hc⟩ := h hn
  refine ⟨b, o, hA, hb, Nat.lt_of_lt_of_le hs ho.size, fun i hi => ?_⟩
  rw [← hc i hi]
  simp [World.cell?, ho.block b hs (fun e => hb (by injection e))]
theorem RdX.below (h : RdX w g k A zs) (hb : Below w.heap.size w w') : RdX w' g k A zs := h.only (Only.ofBelow hb)
theorem RdX.drew (h : RdX w g k A zs) : RdX w.drew g k A zs := h
/-- Kept while another block turns. -/
theorem RdX.other {j : Nat} (h : RdX w g k A zs) (h' : RdX w j k A zs) (ho : Only j w w') : RdX w' g k A zs := fun hn => by
  obtain ⟨b, o, hA, hb, hs, hc⟩ := h hn
  obtain ⟨b', o', hA', hb', _, _⟩ := h' hn
  rw [hA] at hA'
  injection hA' with e
  injection e with e1 e2
  subst e1 e2
  refine ⟨b, o, hA, hb, Nat.lt_of_lt_of_le hs ho.size, fun i hi => ?_⟩
  rw [← hc i hi]
  simp [World.cell?, ho.block b hs (fun e => hb' (by injection e))]
theorem Rd.x (h : Rd w B k A zs) (hg : B ≤ g) (hs : B ≤ w.heap.size) : RdX w g k A zs := fun hn => by
  obtain ⟨b, o, hA, hb, hc⟩ := h hn
  exact ⟨b, o, hA, by omega, by omega, hc⟩
theorem RdX.rd (h : RdX w g k A zs) : Rd w w.heap.size k A zs := fun hn => by
  obtain ⟨b, o, hA, _, hs, hc⟩ := h hn
  exact ⟨b, o, hA, hs, hc⟩
theorem Blk.rdx {j : Nat} {t : TypeId} (h : Blk w j t (nums k zs)) (hj : j ≠ g) : RdX w g k (some ⟨j, 0, none⟩) zs :=
  fun _ => ⟨j, 0, rfl, hj, h.lt, fun i hi => by rw [Nat.zero_add, h.cell, nums_get k zs i hi]⟩
theorem RdX.nil : RdX w g k A [] := fun h => absurd h (by simp)
end

/-- The address of a slice that is cut n on. -/
def cutA (A : Option Addr) (n cap : Nat) : Option Addr := if cap = n then A else A.map (·.add n)
theorem getD_drop (zs : List Int) (n i : Nat) : (zs.drop n).getD i 0 = zs.getD (n + i) 0 := by
  simp [List.getD_eq_getElem?_getD, List.getElem?_drop]
theorem getD_take (zs : List Int) (n i : Nat) (h : i < n) : (zs.take n).getD i 0 = zs.getD i 0 := by
  simp [List.getD_eq_getElem?_getD, h]
theorem RdX.cut {w : World} {g : Nat} {k : IntKind} {A : Option Addr} {zs : List Int} (h : RdX w g k A zs) (n cap : Nat) (hc : zs.length ≤ cap) : RdX w g k (cutA A n cap) (zs.drop n) := fun hn => by
  rw [List.length_drop] at hn
  obtain ⟨b, o, rfl, hb, hs, hcell⟩ := h (by omega)
  refine ⟨b, o + n, ?_, hb, hs, fun i hi => ?_⟩
  · unfold cutA
    rw [if_neg (by omega)]
    show some (Addr.add _ n) = _
    rw [Addr.add_mid]
  · rw [List.length_drop] at hi
    rw [getD_drop, Nat.add_assoc]
    exact hcell (n + i) (by omega)
theorem Rd.cut {w : World} {B : Nat} {k : IntKind} {A : Option Addr} {zs : List Int} (h : Rd w B k A zs) (n cap : Nat) (hc : zs.length ≤ cap) : Rd w B k (cutA A n cap) (zs.drop n) := fun hn => by
  rw [List.length_drop] at hn
  obtain ⟨b, o, rfl, hb, hcell⟩ := h (by omega)
  refine ⟨b, o + n, ?_, hb, fun i hi => ?_⟩
  · unfold cutA
    rw [if_neg (by omega)]
    show some (Addr.add _ n) = _
    rw [Addr.add_mid]
  · rw [List.length_drop] at hi
    rw [getD_drop, Nat.add_assoc]
    exact hcell (n + i) (by omega)

section
variable {P : Program}
theorem run_cut {t elem : TypeId} (hu : P.underlying t = some (.slice elem)) (hs : (P.info? elem).map (·.size) = some 1) (w : World) (A : Option Addr) (len cap n : Nat) (ni : Int) (hni : ni = n) (hn : n ≤ len) :
    (Instr.sliceAt t (.slice A len cap) (some (.int .i64 ni)) none none).run P w = .ok (.slice (cutA A n cap) (len - n) (cap - n)) w := by
  subst hni
  have hz : ∀ w, (sizeOf elem).run P w = .ok 1 w := fun w => by
    cases hq : P.info? elem with
    | none => simp [hq] at hs
    | some i =>
      have : i.size = 1 := by simpa [hq] using hs
      simp [sizeOf, typeInfo, hq, this]
  have he : P.elem t = elem := by simp [Program.elem, hu]
  rw [run_sliceAt_slice w t _ _ _ _ (by rw [he]; exact hu), run_slice_l w t A len cap (by rw [he]; exact hu) .i64 n (by omega) (by omega), he, hz]
  simp [sliced, cutA]

/-- copy into block g, from o on. -/
theorem run_copy_blk {dT sT ty elem t : TypeId} {w : World} {g o n c : Nat} {cur : Array Value} {A : Option Addr} {zs : List Int} {cap : Nat} {k : IntKind} (hu : P.underlying dT = some (.slice elem)) (hs : (P.info? elem).map (·.size) = some 1)
    (hg : Blk w g t cur) (hr : RdX w g k A zs) (hfit : o + n ≤ cur.size) :
    (Builtin.copy_ #[dT, sT] ty #[.slice (some ⟨g, o, none⟩) n c, .slice A zs.length cap]).run P w =
      .ok (goInt (Nat.min zs.length n)) (w.setRow g (cur.toList.take o ++ (zs.take n).map (Value.int k) ++ cur.toList.drop (o + Nat.min zs.length n)).toArray) := by
  have hlen : (zs.take n).length = Nat.min zs.length n := by rw [List.length_take]; exact Nat.min_comm _ _
  by_cases h0 : Nat.min zs.length n = 0
  · rw [run_copy_none _ dT sT ty elem _ _ _ _ _ _ hu hs h0, h0]
    have e : zs.take n = [] := List.eq_nil_of_length_eq_zero (by rw [hlen]; exact h0)
    rw [e]
    simp only [List.map_nil, List.append_nil, Nat.add_zero, List.take_append_drop, Array.toArray_toList]
    rw [setRow_self w g cur t _ hg]
    rfl
  · have h0' : min zs.length n ≠ 0 := h0
    obtain ⟨b, p, rfl, hb, hsz, hc⟩ := hr (by omega)
    have hm : Nat.min zs.length n ≤ n := Nat.min_le_right _ _
    rw [run_copy_row (P := P) _ dT sT ty elem g o n c ⟨b, p, none⟩ zs.length cap cur t ((zs.take n).map (Value.int k)) hu hs hg (by rw [List.length_map]; exact hlen) ?_ (by rw [List.length_map, hlen]; omega) ?_]
    · rw [List.length_map, hlen]
    · intro j v hj
      rw [List.getElem?_map] at hj
      have hj' : j < (zs.take n).length := by
        rcases Nat.lt_or_ge j (zs.take n).length with h | h
        · exact h
        · rw [List.getElem?_eq_none h] at hj; cases hj
      rw [List.length_take] at hj'
      have hv := hc j (by omega)
      rw [List.getElem?_take, if_pos (by omega)] at hj
      have e : zs[j]? = some (zs.getD j 0) := by simp [List.getD_eq_getElem?_getD, show j < zs.length by omega]
      rw [e] at hj
      simp only [Option.map_some, Option.some.injEq] at hj
      subst hj
      rw [Addr.add_mid]
      exact hv
    · intro v hv
      rw [List.mem_map] at hv
      obtain ⟨c, _, rfl⟩ := hv
      rfl
end
end Go.Proofs.YtjelgoeamaejmaaGreat
