/- Own words for memory: a slice that reads as numbers; a block that is known whole. -/
import Derived.WalkKit
import Derived.ProofKit
import Derived.OpenShut
import Derived.WalkLawsBesides
import Derived.WalkSpells
import Derived.Handy
import Derived.BigQuiet
import Derived.Lib.Hide
import Derived.Deep.QuietTactic
import Derived.Deep.LoopGhost
import Derived.Deep.MidRow
import Derived.WalkSmall
namespace Go.Proofs.Ytmihoeholcaokaa
open Go.RowKit

theorem ret_num {k : IntKind} {a b : Int} (h : a = b) : Ending.returned (.int k a) = .returned (.int k b) := by rw [h]

/-- In w the memory at A, below block B, reads as the numbers zs of kind k. -/
def Rd (w : World) (B : Nat) (k : IntKind) (A : Option Addr) (zs : List Int) : Prop :=
  0 < zs.length → ∃ b o, A = some ⟨b, o, none⟩ ∧ b < B ∧ ∀ i, i < zs.length → w.cell? ⟨b, o + i, none⟩ = some (.int k (zs.getD i 0))

section
variable {w w' : World} {B B' : Nat} {k : IntKind} {A : Option Addr} {zs : List Int}
theorem Rd.get (h : Rd w B k A zs) {i : Nat} (hi : i < zs.length) : ∃ b o, A = some ⟨b, o, none⟩ ∧ b < B ∧ w.cell? ⟨b, o + i, none⟩ = some (.int k (zs.getD i 0)) := by
  obtain ⟨b, o, hA, hb, hc⟩ := h (by omega)
  exact ⟨b, o, hA, hb, hc i hi⟩
theorem Rd.keep (h : Rd w B k A zs) (hk : ∀ p : Addr, p.block < B → w'.cell? p = w.cell? p) : Rd w' B k A zs := fun hn => by
  obtain ⟨b, o, hA, hb, hc⟩ := h hn
  exact ⟨b, o, hA, hb, fun i hi => (hk _ hb).trans (hc i hi)⟩
theorem Rd.more (h : Rd w B k A zs) (hB : B ≤ B') : Rd w B' k A zs := fun hn => by
  obtain ⟨b, o, hA, hb, hc⟩ := h hn
  exact ⟨b, o, hA, by omega, hc⟩
theorem Rd.below (h : Rd w B k A zs) (hb : Below B w w') : Rd w' B k A zs := h.keep fun _ hp => hb.cell hp
theorem Rd.drewN (h : Rd w B k A zs) (n : Nat) : Rd (w.drewN n) B k A zs := h
theorem Rd.drew (h : Rd w B k A zs) : Rd w.drew B k A zs := h
/-- Carried to a world in which nothing below the heap's old size has turned. -/
theorem Rd.on (h : Rd w w.heap.size k A zs) (hb : Below w.heap.size w w') : Rd w' w'.heap.size k A zs := (h.below hb).more hb.size
end

/-- Block g is just the cells cs. -/
def Blk (w : World) (g : Nat) (t : TypeId) (cs : Array Value) : Prop := w.heap[g]? = some (.cells cs t (0, 0))
section
variable {w w' : World} {B g : Nat} {t : TypeId} {cs : Array Value}
theorem Blk.lt (h : Blk w g t cs) : g < w.heap.size := (Array.getElem?_eq_some_iff.1 h).1
theorem Blk.cell (h : Blk w g t cs) (i : Nat) : w.cell? ⟨g, i, none⟩ = cs[i]? := cell_of_row w g i cs t (0, 0) h
theorem Blk.free (h : Blk w g t cs) (i : Nat) : w.frozen? ⟨g, i, none⟩ = false := by
  unfold Blk at h
  simp [World.frozen?, h]
theorem Blk.fresh (w : World) (t : TypeId) (cs : Array Value) : Blk (w.alloc (.cells cs t)) w.heap.size t cs := by
  show (w.heap.push _)[w.heap.size]? = _
  simp
theorem Blk.below (h : Blk w g t cs) (hb : Below B w w') (hg : g < B) : Blk w' g t cs := (hb.block g hg).trans h
theorem Blk.on (h : Blk w g t cs) (hb : Below w.heap.size w w') : Blk w' g t cs := h.below hb h.lt
theorem Blk.alloc (h : Blk w g t cs) (o : Obj) : Blk (w.alloc o) g t cs := (Below.heap_alloc w o g h.lt).trans h
theorem Blk.put (h : Blk w g t cs) (i : Nat) (u : Value) : Blk (w.setCell ⟨g, i, none⟩ u) g t (cs.setIfInBounds i u) := by
  unfold Blk at h ⊢
  simp [World.setCell, Array.getElem?_modify, h]
theorem Blk.far (h : Blk w g t cs) {p : Addr} (hp : g ≠ p.block) (u : Value) : Blk (w.setCell p u) g t cs := (Below.heap_setCell w p u g hp).trans h
end
/-- The cells of numbers. -/
def nums (k : IntKind) (zs : List Int) : Array Value := (zs.map (Value.int k)).toArray
theorem nums_get (k : IntKind) (zs : List Int) (i : Nat) (hi : i < zs.length) : (nums k zs)[i]? = some (.int k (zs.getD i 0)) := by
  simp [nums, List.getD, hi]
theorem Blk.rd {w : World} {g : Nat} {t : TypeId} {k : IntKind} {zs : List Int} (h : Blk w g t (nums k zs)) : Rd w w.heap.size k (some ⟨g, 0, none⟩) zs :=
  fun _ => ⟨g, 0, rfl, h.lt, fun i hi => by rw [Nat.zero_add, h.cell, nums_get k zs i hi]⟩
theorem nums_put (k : IntKind) (zs : List Int) (i : Nat) (u : Int) : (nums k zs).setIfInBounds i (.int k u) = nums k (zs.set i u) := by
  simp [nums, List.map_set]

/-- Between the worlds only block g has turned, and new ones have come. -/
def Only (g : Nat) (w w' : World) : Prop := w.grownBy w' (some g)
section
variable {w w' w'' : World} {B g : Nat}
theorem Only.refl (g : Nat) (w : World) : Only g w w := World.grownBy.refl w _
theorem Only.drew (h : Only g w w') : Only g w w'.drew := ⟨h.os, h.tape, h.output, h.size, h.block⟩
theorem Only.drewN (h : Only g w w') (n : Nat) : Only g w (w'.drewN n) := ⟨h.os, h.tape, h.output, h.size, h.block⟩
theorem Only.put (h : Only g w w') (o : Nat) (u : Value) : Only g w (w'.setCell ⟨g, o, none⟩ u) :=
  ⟨h.os, h.tape, h.output, by simpa [World.setCell] using h.size, fun i hi hne => (Below.heap_setCell w' _ u i (fun e => hne (by simp [e]))).trans (h.block i hi hne)⟩
theorem Only.trans (h : Only g w w') (k : Only g w' w'') : Only g w w'' :=
  ⟨k.os.trans h.os, k.tape.trans h.tape, k.output.trans h.output, Nat.le_trans h.size k.size, fun i hi hne => (k.block i (Nat.lt_of_lt_of_le hi h.size) hne).trans (h.block i hi hne)⟩
/-- If g is a block of the call's own. -/
theorem Only.below (h : Only g w w') (hB : B ≤ g) (hs : B ≤ w.heap.size) : Below B w w' :=
  ⟨h.os, h.tape, h.output, h.size, fun i hi => h.block i (by omega) (fun e => by injection e with e; omega)⟩
end
theorem below_alloc (w : World) (o : Obj) : Below w.heap.size w (w.alloc o) := (Below.refl _ _).alloc (Nat.le_refl _) o
end Go.Proofs.Ytmihoeholcaokaa

/- Blocks that are known whole: an array read out of one, an array laid into one. -/
namespace Go.Proofs.Ytmihoeholcaokaa
open Go.RowKit

section
variable {w w' : World} {B g o : Nat} {t : TypeId} {cs : Array Value}
theorem Blk.setRow (h : Blk w g t cs) (cs' : Array Value) : Blk (w.setRow g cs') g t cs' := setRow_heap w g cs cs' t _ h
theorem setRow_far (w : World) {g i : Nat} (cs : Array Value) (h : i ≠ g) : (w.setRow g cs).heap[i]? = w.heap[i]? := by
  show (w.heap.modify g _)[i]? = _
  rw [Array.getElem?_modify, if_neg (fun e => h e.symm)]
theorem Blk.farRow (h : Blk w g t cs) {i : Nat} (hi : g ≠ i) (cs' : Array Value) : Blk (w.setRow i cs') g t cs := (setRow_far w cs' hi).trans h
theorem Blk.drew (h : Blk w g t cs) : Blk w.drew g t cs := h
theorem Blk.drewN (h : Blk w g t cs) (n : Nat) : Blk (w.drewN n) g t cs := h
theorem Blk.only {j : Nat} (h : Blk w g t cs) (ho : Only j w w') (hj : g ≠ j) : Blk w' g t cs := (ho.block g h.lt (fun e => hj (by injection e))).trans h
theorem Only.setRow {w0 : World} (h : Only g w0 w) (cs : Array Value) : Only g w0 (w.setRow g cs) :=
  ⟨h.os, h.tape, h.output, by rw [size_setRow]; exact h.size, fun i hi hne => (setRow_far w cs (fun e => hne (by rw [e]))).trans (h.block i hi hne)⟩
theorem Only.alloc {w0 : World} (h : Only g w0 w) (ob : Obj) : Only g w0 (w.alloc ob) :=
  ⟨h.os, h.tape, h.output, by have := h.size; simp; omega, fun i hi hne => (Below.heap_alloc w ob i (Nat.lt_of_lt_of_le hi h.size)).trans (h.block i hi hne)⟩
theorem below_row {w0 : World} (h : Below B w0 w) (hg : B ≤ g) (cs : Array Value) : Below B w0 (w.setRow g cs) :=
  ⟨h.os, h.tape, h.output, by rw [size_setRow]; exact h.size, fun i hi => (setRow_far w cs (by omega)).trans (h.block i hi)⟩
theorem below_drawn {w0 : World} (h : Below B w0 w) : Below B w0 w.drew := ⟨h.os, h.tape, h.output, h.size, h.block⟩
theorem below_drawnN {w0 : World} (h : Below B w0 w) (n : Nat) : Below B w0 (w.drewN n) := ⟨h.os, h.tape, h.output, h.size, h.block⟩
theorem Only.ofBelow (h : Below w.heap.size w w') : Only g w w' := ⟨h.os, h.tape, h.output, h.size, fun i hi _ => h.block i hi⟩
theorem Only.more {w'' : World} (h : Only g w w') (hb : Below w'.heap.size w' w'') : Only g w w'' := h.trans (Only.ofBelow hb)
/-- What is done to a block of the call's own turns nothing that was there. -/
theorem Only.own (h : Only g w w') (hg : w.heap.size ≤ g) : Below w.heap.size w w' := h.below hg (Nat.le_refl _)
theorem Only.size' (h : Only g w w') : w.heap.size ≤ w'.heap.size := h.size
/-- A write into a newer block does not turn an older world. -/
theorem Only.under {w0 : World} {j : Nat} (h : Only g w0 w) (k : Only j w w') (hj : w0.heap.size ≤ j ∨ j = g) : Only g w0 w' :=
  ⟨k.os.trans h.os, k.tape.trans h.tape, k.output.trans h.output, Nat.le_trans h.size k.size, fun i hi hne => (k.block i (Nat.lt_of_lt_of_le hi h.size) (fun e => by
    injection e with e
    rcases hj with hj | hj
    · omega
    · exact hne (by rw [hj] at e; rw [e]))).trans (h.block i hi hne)⟩
end

theorem Blk.freshAt (w : World) (t : TypeId) (cs : Array Value) (n : Nat) (hn : n = w.heap.size) : Blk (w.alloc (.cells cs t)) n t cs := by subst hn; exact Blk.fresh w t cs
theorem nums_size (k : IntKind) (zs : List Int) : (nums k zs).size = zs.length := by simp [nums]
theorem nums_toList (k : IntKind) (zs : List Int) : (nums k zs).toList = zs.map (Value.int k) := rfl
theorem nums_append (k : IntKind) (a b : List Int) : nums k a ++ nums k b = nums k (a ++ b) := by simp [nums]
theorem nums_one (k : IntKind) (zs : List Int) : (nums k zs).all (·.oneCell') = true := by
  rw [Array.all_eq_true_iff_forall_mem]
  intro v hv
  simp only [nums, List.mem_toArray, List.mem_map] at hv
  obtain ⟨_, _, rfl⟩ := hv
  rfl

section
variable {P : Program}
/-- The array of type ty that lies in block g from o on is read. -/
theorem run_load_blk {w : World} {g o : Nat} {t ty : TypeId} {cs a b : Array Value} {c : Array Value} {d : TypeDesc} (h : Blk w g t cs) (hcs : cs = a ++ c ++ b) (ho : a.size = o)
    (hu : P.underlying ty = some d) (hd : d.isRow = true) (hi : (P.info? ty).map (·.size) = some c.size) :
    (Instr.loadAt ty (.pointer (some ⟨g, o, none⟩))).run P w = .ok (.agg c) w := by
  have := run_loadAt_mid (P := P) w g o ty c.toList d (fun j v hv => by
    rw [h.cell, hcs]
    have hj : j < c.size := by
      rcases Nat.lt_or_ge j c.size with h | h
      · exact h
      · rw [List.getElem?_eq_none (by simpa using h)] at hv; cases hv
    rw [Array.getElem?_append_left (by simp; omega), Array.getElem?_append_right (by omega), show o + j - a.size = j by omega, ← hv]
    simp) hu hd (by simpa using hi)
  simpa using this
/-- An array is laid into block g from o on. -/
theorem run_store_blk {w : World} {g o : Nat} {t ty : TypeId} {cs a b c c' : Array Value} (h : Blk w g t cs) (hcs : cs = a ++ c ++ b) (ho : a.size = o)
    (hi : (P.info? ty).map (·.size) = some c'.size) (hc : c.size = c'.size) (h1 : c'.all (·.oneCell') = true) :
    (Instr.storeAt ty (.pointer (some ⟨g, o, none⟩)) (.agg c')).run P w = .ok () (w.setRow g (a ++ c' ++ b)) := by
  have := run_storeCells_at P g o t c'.toList 0 cs w h (by rw [hcs]; simp; omega) (fun v hv => (Array.all_eq_true_iff_forall_mem.1 h1) v (by simpa using hv))
  have e : (List.take (o + 0) cs.toList ++ c'.toList ++ List.drop (o + 0 + c'.toList.length) cs.toList).toArray = a ++ c' ++ b := by
    rw [hcs]
    apply Array.ext'
    simp only [Array.toList_append, Array.length_toList, Nat.add_zero]
    rw [List.append_assoc a.toList, List.take_append_of_le_length (by simp; omega), List.take_of_length_le (by simp; omega), ← List.append_assoc a.toList, List.drop_append_of_le_length (by simp; omega), List.drop_eq_nil_of_le (by simp; omega)]
    simp
  rw [e] at this
  cases hq : P.info? ty with
  | none => simp [hq] at hi
  | some i =>
    have hs : c'.size = i.size := by simp [hq] at hi; omega
    simp [Instr.storeAt, Instr.sureAddr, storeVar, sizeOf, typeInfo, hq, Value.cells, hs, this]
/-- The whole block. -/
theorem run_load_all {w : World} {g : Nat} {t ty : TypeId} {cs : Array Value} {d : TypeDesc} (h : Blk w g t cs) (hu : P.underlying ty = some d) (hd : d.isRow = true) (hi : (P.info? ty).map (·.size) = some cs.size) :
    (Instr.loadAt ty (.pointer (some ⟨g, 0, none⟩))).run P w = .ok (.agg cs) w := run_load_blk (a := #[]) (b := #[]) h (by simp) rfl hu hd hi
theorem run_store_all {w : World} {g : Nat} {t ty : TypeId} {cs c' : Array Value} (h : Blk w g t cs) (hi : (P.info? ty).map (·.size) = some c'.size) (hc : cs.size = c'.size) (h1 : c'.all (·.oneCell') = true) :
    (Instr.storeAt ty (.pointer (some ⟨g, 0, none⟩)) (.agg c')).run P w = .ok () (w.setRow g c') := by
  have := run_store_blk (P := P) (a := #[]) (b := #[]) h (by simp) rfl hi hc h1
  simpa using this
theorem results_blk {fn : Func} {p : Tmp} {ty : TypeId} (h : fn.results = #[.cell p ty]) (tmps : Array Value) {w : World} {g : Nat} {t : TypeId} {cs : Array Value} {d : TypeDesc} (hp : tmps.getD p undef = .pointer (some ⟨g, 0, none⟩))
    (hg : Blk w g t cs) (hu : P.underlying ty = some d) (hd : d.isRow = true) (hi : (P.info? ty).map (·.size) = some cs.size) : (results fn tmps).run P w = .ok (.agg cs) w :=
  results_cell_row h tmps w g t cs (0, 0) d hp hg hu (by cases d <;> simp_all [TypeDesc.isRow]) hi
/-- A slice of an array of small cells, from l on. -/
theorem run_slice_arr {t elem : TypeId} {n : Nat} (hu : P.underlying t = some (.array n elem)) (hs : (P.info? elem).map (·.size) = some 1) (w : World) (g o l : Nat) (li : Int) (hli : li = l) (hl : l < n) :
    (Instr.sliceAt t (.pointer (some ⟨g, o, none⟩)) (some (.int .i64 li)) none none).run P w = .ok (.slice (some ⟨g, o + l, none⟩) (n - l) (n - l)) w := by
  subst hli
  have hz : ∀ w, (sizeOf elem).run P w = .ok 1 w := fun w => by
    cases hq : P.info? elem with
    | none => simp [hq] at hs
    | some i =>
      have : i.size = 1 := by simpa [hq] using hs
      simp [sizeOf, typeInfo, hq, this]
  have hne : ¬ n = l := by omega
  have ha : (⟨g, o, none⟩ : Addr).add l = ⟨g, o + l, none⟩ := Addr.add_mid g o l
  simp [Instr.sliceAt, Instr.sureAddr, run_underlying hu, Instr.sliceBounds, run_sliceBound, hz, hne, ha, show (l : Int) ≤ n by omega]
/-- Guards of arms: they pass at one kind of operation alone. -/
theorem is_load {ops : Array Oper} {rest : List Oper} {o : Oper} {a : Act} {w : World} {Q : Exit → Act → World → Prop} (ty : TypeId) {x : Operand} (_ho : o.op = .load ty x) (h : wpList P ops Q (o :: rest) a w) : wpList P ops Q (o :: rest) a w := h
theorem is_store {ops : Array Oper} {rest : List Oper} {o : Oper} {a : Act} {w : World} {Q : Exit → Act → World → Prop} (ty : TypeId) {x y : Operand} (_ho : o.op = .store ty x y) (h : wpList P ops Q (o :: rest) a w) : wpList P ops Q (o :: rest) a w := h
theorem is_append {ops : Array Oper} {rest : List Oper} {o : Oper} {a : Act} {w : World} {Q : Exit → Act → World → Prop} (t : TypeId) {s x : Operand} (_ho : o.op = .call { callee := .builtin .append, args := #[s, x], argTypes := #[t, t] }) (h : wpList P ops Q (o :: rest) a w) : wpList P ops Q (o :: rest) a w := h
/-- For an arm of the walk: a load, a store whose run is known. -/
theorem wpList_load_run {ops : Array Oper} {rest : List Oper} {o : Oper} {a : Act} {w : World} {Q : Exit → Act → World → Prop} (hgd : o.guard = none) {ty : TypeId} {x : Operand} (ho : o.op = .load ty x)
    {p v : Value} (hr : (Instr.loadAt ty p).run P w = .ok v w) (hx : a.eval x = p) (h : wpList P ops Q rest (a.put o.dst v) w) : wpList P ops Q (o :: rest) a w :=
  wpList_plain hgd fun K hK => by
    unfold Oper.wp execOp
    simp only [ho, hx, Sem.run_bind, Sem.run_pure, Result.andThen_ok, hr]
    exact hK _ _ h
theorem wpList_store_run {ops : Array Oper} {rest : List Oper} {o : Oper} {a : Act} {w w' : World} {Q : Exit → Act → World → Prop} (hgd : o.guard = none) {ty : TypeId} {x y : Operand} (ho : o.op = .store ty x y)
    {p v : Value} (hr : (Instr.storeAt ty p v).run P w = .ok () w') (hx : a.eval x = p) (hy : a.eval y = v) (h : wpList P ops Q rest (a.put o.dst undef) w') : wpList P ops Q (o :: rest) a w :=
  wpList_plain hgd fun K hK => by
    unfold Oper.wp execOp
    simp only [ho, hx, hy, Sem.run_bind, Sem.run_pure, Result.andThen_ok, hr]
    exact hK _ _ h
end
end Go.Proofs.Ytmihoeholcaokaa
