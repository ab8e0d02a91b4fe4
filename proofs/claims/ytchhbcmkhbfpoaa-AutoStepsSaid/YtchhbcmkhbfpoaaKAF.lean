/- Package frame: a stack in memory. -/
import Derived.Test.YtchhbcmkhbfpoaaKAE
namespace Go.Proofs.Ytchhbcmkhbfpoaa
open Go.RowKit

/-- Of the blocks that were there only those of a set have turned. -/
structure Wi (S : Nat → Prop) (w w' : World) : Prop where
  os : w'.os = w.os
  tape : w'.tape = w.tape
  output : w'.output = w.output
  size : w.heap.size ≤ w'.heap.size
  block : ∀ i, i < w.heap.size → ¬ S i → w'.heap[i]? = w.heap[i]?
section
variable {S S' : Nat → Prop} {w w' w'' : World} {B : Nat}
theorem Wi.refl : Wi S w w := ⟨rfl, rfl, rfl, Nat.le_refl _, fun _ _ _ => rfl⟩
theorem Wi.trans (h : Wi S w w') (k : Wi S w' w'') : Wi S w w'' :=
  ⟨k.os.trans h.os, k.tape.trans h.tape, k.output.trans h.output, Nat.le_trans h.size k.size, fun i hi a => (k.block i (Nat.lt_of_lt_of_le hi h.size) a).trans (h.block i hi a)⟩
theorem Wi.mono (h : Wi S w w') (hs : ∀ i, S i → S' i) : Wi S' w w' := ⟨h.os, h.tape, h.output, h.size, fun i hi a => h.block i hi (fun s => a (hs i s))⟩
theorem Wi.ofBelow (h : Below w.heap.size w w') : Wi S w w' := ⟨h.os, h.tape, h.output, h.size, fun i hi _ => h.block i hi⟩
theorem Wi.ofOnly {g : Nat} (h : Only g w w') (hg : S g) : Wi S w w' := ⟨h.os, h.tape, h.output, h.size, fun i hi a => h.block i hi (fun e => a (by injection e with e; exact e ▸ hg))⟩
theorem Wi.ofTri {g p q : Nat} (h : Tri g p q w w') (hg : S g) (hp : S p) (hq : S q) : Wi S w w' :=
  ⟨h.os, h.tape, h.output, h.size, fun i hi a => h.block i hi (fun e => a (e ▸ hg)) (fun e => a (e ▸ hp)) (fun e => a (e ▸ hq))⟩
theorem Wi.below (h : Wi S w w') (hs : ∀ i, S i → B ≤ i) (hB : B ≤ w.heap.size) : Below B w w' := ⟨h.os, h.tape, h.output, h.size, fun i hi => h.block i (by omega) (fun s => by have := hs i s; omega)⟩
theorem Wi.blk {j : Nat} {t : TypeId} {cs : Array Value} (h : Wi S w w') (hb : Blk w j t cs) (hj : ¬ S j) : Blk w' j t cs := (h.block j hb.lt hj).trans hb
theorem Wi.drewN (h : Wi S w w') (n : Nat) : Wi S w (w'.drewN n) := ⟨h.os, h.tape, h.output, h.size, h.block⟩
theorem Wi.drew (h : Wi S w w') : Wi S w w'.drew := ⟨h.os, h.tape, h.output, h.size, h.block⟩
end

/-- A key's memory: its blocks, the last key, the next one, is there a last one. -/
structure KV where
  g : Nat
  p : Nat
  q : Nat
  a : List Int
  b : List Int
  e : Bool
/-- A frame's place. -/
structure FC where
  kind : Int
  left : Int
  keyed : Bool
  k : KV
def FC.cells (x : FC) : List Value := [.pointer (some ⟨x.k.g, 0, none⟩), .int .i64 x.kind, .int .u64 x.left, .bool x.keyed]
def frcells : List FC → List Value
  | [] => []
  | x :: r => x.cells ++ frcells r
theorem length_frcells (l : List FC) : (frcells l).length = l.length * 4 := by
  induction l with
  | nil => rfl
  | cons x r ih => simp [frcells, FC.cells, ih]; omega
theorem frcells_get {l : List FC} {i j : Nat} {x : FC} (h : l[i]? = some x) (hj : j < 4) : (frcells l)[i * 4 + j]? = x.cells[j]? := by
  induction l generalizing i with
  | nil => cases h
  | cons y r ih =>
    unfold frcells
    cases i with
    | zero =>
      simp only [List.getElem?_cons_zero, Option.some.injEq] at h
      subst h
      rw [Nat.zero_mul, Nat.zero_add, List.getElem?_append_left (by simpa [FC.cells] using hj)]
    | succ i =>
      rw [List.getElem?_append_right (by simp [FC.cells]; omega), show (i + 1) * 4 + j - y.cells.length = i * 4 + j by simp [FC.cells]; omega]
      exact ih (by simpa using h)
theorem frcells_put {l : List FC} {i j : Nat} {x x' : FC} {v : Value} (h : l[i]? = some x) (hj : j < 4) (hx : x'.cells = x.cells.set j v) : frcells (l.set i x') = (frcells l).set (i * 4 + j) v := by
  induction l generalizing i with
  | nil => cases h
  | cons y r ih =>
    cases i with
    | zero =>
      simp only [List.getElem?_cons_zero, Option.some.injEq] at h
      subst h
      rw [List.set_cons_zero, Nat.zero_mul, Nat.zero_add]
      unfold frcells
      rw [hx, List.set_append, if_pos (by simpa [FC.cells] using hj)]
    | succ i =>
      rw [List.set_cons_succ]
      unfold frcells
      rw [List.set_append, if_neg (by simp [FC.cells]; omega), show (i + 1) * 4 + j - y.cells.length = i * 4 + j by simp [FC.cells]; omega, ih (by simpa using h)]
theorem set_self {α : Type} {l : List α} {i : Nat} {x : α} (h : l[i]? = some x) : l.set i x = l := by
  apply List.ext_getElem?
  intro j
  rw [List.getElem?_set]
  split
  · next e => subst e; split
              · exact h.symm
              · next hl => rw [List.getElem?_eq_none (by omega)] at h; cases h
  · rfl
theorem frcells_same {l : List FC} {i : Nat} {x x' : FC} (h : l[i]? = some x) (hx : x'.cells = x.cells) : frcells (l.set i x') = frcells l := by
  have := frcells_put (j := 1) (x' := x') (v := .int .i64 x.kind) h (by decide) (by rw [hx]; rfl)
  rw [this]
  exact set_self (frcells_get h (by decide))

/-- A stack in block s, its frames in block f, n of them open; own tells whose a block is: 1 the stack's, 2 the frames', i + 3 frame i's. -/
structure Stk (w : World) (own : Nat → Nat) (s f K : Nat) (fs : List FC) (n : Nat) : Prop where
  sblk : Blk w s 93 #[.slice (some ⟨f, 0, none⟩) fs.length fs.length, .int .i64 n]
  fblk : Blk w f 97 (frcells fs).toArray
  os : own s = 1
  of : own f = 2
  ks : ∀ (i : Nat) (x : FC), fs[i]? = some x → Ks w x.k.g x.k.p x.k.q K x.k.a x.k.b x.k.e ∧ own x.k.g = i + 3 ∧ own x.k.p = i + 3 ∧ own x.k.q = i + 3 ∧ ByteL x.k.a ∧ ByteL x.k.b
  hn : n ≤ fs.length
  hl : fs.length ≤ 64
section
variable {w w' : World} {own : Nat → Nat} {s f K : Nat} {fs : List FC} {n : Nat}
theorem Stk.keep (h : Stk w own s f K fs n) (hs : w.heap.size ≤ w'.heap.size) (hb : ∀ i, i < w.heap.size → own i ≠ 0 → w'.heap[i]? = w.heap[i]?) : Stk w' own s f K fs n := by
  have ne : ∀ {a b : Nat}, a = b + 1 → a ≠ 0 := fun h => by omega
  refine ⟨(hb s h.sblk.lt (ne h.os)).trans h.sblk, (hb f h.fblk.lt (ne h.of)).trans h.fblk, h.os, h.of, fun i x hx => ?_, h.hn, h.hl⟩
  obtain ⟨k1, k2, k3, k4, k5⟩ := h.ks i x hx
  exact ⟨k1.keep hs (hb _ k1.blk.lt (ne k2)) (hb _ k1.lp (ne k3)) (hb _ k1.lq (ne k4)), k2, k3, k4, k5⟩
theorem Stk.on (h : Stk w own s f K fs n) (hb : Below w.heap.size w w') : Stk w' own s f K fs n := h.keep hb.size fun i hi _ => hb.block i hi
theorem Stk.wi {S : Nat → Prop} (h : Stk w own s f K fs n) (hb : Wi S w w') (hS : ∀ i, S i → own i = 0) : Stk w' own s f K fs n := h.keep hb.size fun i hi ho => hb.block i hi fun hs => ho (hS i hs)
theorem Stk.drewN (h : Stk w own s f K fs n) (k : Nat) : Stk (w.drewN k) own s f K fs n := h.on (below_drawnN (Below.refl _ _) k)
theorem Stk.only {j : Nat} (h : Stk w own s f K fs n) (ho : Only j w w') (hj : own j = 0) : Stk w' own s f K fs n := h.keep ho.size fun i hi hi0 => ho.block i hi (fun e => by injection e with e; subst e; exact hi0 hj)
/-- Another frame's keys are left alone. -/
theorem Stk.setK (h : Stk w own s f K fs n) {i : Nat} {x : FC} (hx : fs[i]? = some x) (ht : Tri x.k.g x.k.p x.k.q w w') {k' : KV} (hg : k'.g = x.k.g) (hp : own k'.p = i + 3) (hq : own k'.q = i + 3) (hk : Ks w' k'.g k'.p k'.q K k'.a k'.b k'.e) (ha : ByteL k'.a) (hb : ByteL k'.b) :
    Stk w' own s f K (fs.set i { x with k := k' }) n := by
  obtain ⟨k1, k2, k3, k4, _⟩ := h.ks i x hx
  have far : ∀ j, own j ≠ i + 3 → j ≠ x.k.g ∧ j ≠ x.k.p ∧ j ≠ x.k.q := fun j hj => ⟨fun e => hj (e ▸ k2), fun e => hj (e ▸ k3), fun e => hj (e ▸ k4)⟩
  have blk : ∀ j, j < w.heap.size → own j ≠ i + 3 → w'.heap[j]? = w.heap[j]? := fun j hj ho => ht.block j hj (far j ho).1 (far j ho).2.1 (far j ho).2.2
  have hl : (fs.set i { x with k := k' }).length = fs.length := List.length_set
  refine ⟨by rw [hl]; exact (blk s h.sblk.lt (by have := h.os; omega)).trans h.sblk, ?_, h.os, h.of, fun j y hy => ?_, by rw [hl]; exact h.hn, by rw [hl]; exact h.hl⟩
  · rw [frcells_same hx (by simp only [FC.cells, hg])]
    exact (blk f h.fblk.lt (by have := h.of; omega)).trans h.fblk
  · by_cases hji : j = i
    · subst hji
      rw [List.getElem?_set_self (by
        rcases Nat.lt_or_ge j fs.length with h' | h'
        · exact h'
        · rw [List.getElem?_eq_none h'] at hx; cases hx)] at hy
      injection hy with hy
      subst hy
      exact ⟨hk, by dsimp only; rw [hg]; exact k2, hp, hq, ha, hb⟩
    · rw [List.getElem?_set_ne (Ne.symm hji)] at hy
      obtain ⟨l1, l2, l3, l4, l5⟩ := h.ks j y hy
      exact ⟨l1.keep ht.size (blk _ l1.blk.lt (by omega)) (blk _ l1.lp (by omega)) (blk _ l1.lq (by omega)), l2, l3, l4, l5⟩
theorem lt_of_get {α : Type} {l : List α} {i : Nat} {x : α} (h : l[i]? = some x) : i < l.length := by
  rcases Nat.lt_or_ge i l.length with h' | h'
  · exact h'
  · rw [List.getElem?_eq_none h'] at h; cases h
theorem get_set {α : Type} {l : List α} {i j : Nat} {x x' y : α} (hx : l[i]? = some x) (hy : (l.set i x')[j]? = some y) : (j = i ∧ y = x') ∨ (j ≠ i ∧ l[j]? = some y) := by
  by_cases e : j = i
  · subst e
    rw [List.getElem?_set_self (lt_of_get hx)] at hy
    injection hy with hy
    exact .inl ⟨rfl, hy.symm⟩
  · rw [List.getElem?_set_ne (Ne.symm e)] at hy
    exact .inr ⟨e, hy⟩
/-- A frame's own cell is stored. -/
theorem Stk.setF (h : Stk w own s f K fs n) {i j : Nat} {x x' : FC} {v : Value} (hx : fs[i]? = some x) (hj : j < 4) (hc : x'.cells = x.cells.set j v) (hk : x'.k = x.k) :
    Stk (w.setCell ⟨f, i * 4 + j, none⟩ v) own s f K (fs.set i x') n := by
  have hl : (fs.set i x').length = fs.length := List.length_set
  have blk : ∀ j', own j' ≠ 2 → (w.setCell ⟨f, i * 4 + j, none⟩ v).heap[j']? = w.heap[j']? := fun j' hj' => Below.heap_setCell w _ v j' (fun e => hj' (by rw [e]; exact h.of))
  refine ⟨by rw [hl]; exact (blk s (by have := h.os; omega)).trans h.sblk, ?_, h.os, h.of, fun j' y hy => ?_, by rw [hl]; exact h.hn, by rw [hl]; exact h.hl⟩
  · have := h.fblk.put (i * 4 + j) v
    rw [frcells_put hx hj hc]
    simpa using this
  · have : ∃ y', fs[j']? = some y' ∧ y'.k = y.k := by
      rcases get_set hx hy with ⟨rfl, rfl⟩ | ⟨_, h'⟩
      · exact ⟨x, hx, hk.symm⟩
      · exact ⟨y, h', rfl⟩
    obtain ⟨y', hy', e⟩ := this
    obtain ⟨l1, l2, l3, l4, l5⟩ := h.ks j' y' hy'
    rw [e] at l1 l2 l3 l4 l5
    exact ⟨l1.keep (by simp [World.setCell]) (blk _ (by omega)) (blk _ (by omega)) (blk _ (by omega)), l2, l3, l4, l5⟩
/-- How many are open is stored. -/
theorem Stk.setN (h : Stk w own s f K fs n) {m : Nat} {v : Int} (hv : v = m) (hm : m ≤ fs.length) : Stk (w.setCell ⟨s, 1, none⟩ (.int .i64 v)) own s f K fs m := by
  subst hv
  have blk : ∀ j', own j' ≠ 1 → (w.setCell ⟨s, 1, none⟩ (.int .i64 m)).heap[j']? = w.heap[j']? := fun j' hj' => Below.heap_setCell w _ _ j' (fun e => hj' (by rw [e]; exact h.os))
  refine ⟨h.sblk.put 1 _, (blk f (by have := h.of; omega)).trans h.fblk, h.os, h.of, fun i x hx => ?_, hm, h.hl⟩
  obtain ⟨l1, l2, l3, l4, l5⟩ := h.ks i x hx
  exact ⟨l1.keep (by simp [World.setCell]) (blk _ (by omega)) (blk _ (by omega)) (blk _ (by omega)), l2, l3, l4, l5⟩
theorem Stk.cells (h : Stk w own s f K fs n) : w.cell? ⟨s, 0, none⟩ = some (.slice (some ⟨f, 0, none⟩) fs.length fs.length) ∧ w.cell? ⟨s, 1, none⟩ = some (.int .i64 n) ∧ ∀ i, w.frozen? ⟨s, i, none⟩ = false := ⟨h.sblk.cell 0, h.sblk.cell 1, h.sblk.free⟩
theorem Stk.fcell (h : Stk w own s f K fs n) {i : Nat} {x : FC} (hx : fs[i]? = some x) : w.cell? ⟨f, i * 4, none⟩ = some (.pointer (some ⟨x.k.g, 0, none⟩)) ∧ w.cell? ⟨f, i * 4 + 1, none⟩ = some (.int .i64 x.kind) ∧ w.cell? ⟨f, i * 4 + 2, none⟩ = some (.int .u64 x.left) ∧ w.cell? ⟨f, i * 4 + 3, none⟩ = some (.bool x.keyed) ∧ ∀ i, w.frozen? ⟨f, i, none⟩ = false := by
  have g : ∀ j, j < 4 → w.cell? ⟨f, i * 4 + j, none⟩ = x.cells[j]? := fun j hj => by rw [h.fblk.cell, List.getElem?_toArray, frcells_get hx hj]
  exact ⟨g 0 (by decide), g 1 (by decide), g 2 (by decide), g 3 (by decide), h.fblk.free⟩
end
/-- &frames[i]. -/
theorem run_frame (w : World) (f n c : Nat) (k : Nat) (x : Int) (hx : x = k) (hk : k < n) : (Instr.indexAt 91 (.slice (some ⟨f, 0, none⟩) n c) (.int .i64 x)).run Try.prog w = .ok (.pointer (some ⟨f, k * 4, none⟩)) w := by
  subst hx
  have hs : (sizeOf 97).run Try.prog w = .ok 4 w := size_run (by kernel_rfl) w
  rw [run_indexAt_slice (P := Try.prog) (w := w) 91 ⟨f, 0, none⟩ n c .i64 k (by kernel_rfl), if_pos (by omega)]
  have he : Try.prog.elem 91 = 97 := by kernel_rfl
  rw [he, hs]
  simp [Addr.add]
  exact fun h => h.symm
end Go.Proofs.Ytchhbcmkhbfpoaa

/- Package frame: a frame's functions. -/
namespace Go.Proofs.Ytchhbcmkhbfpoaa
open Go.RowKit

def FC.waits (x : FC) : Bool := x.kind == 5 && !x.keyed
theorem frame_waits (w : World) (f u : Nat) (kind : Int) (keyed : Bool) (c1 : w.cell? ⟨f, u + 1, none⟩ = some (.int .i64 kind)) (c3 : w.cell? ⟨f, u + 3, none⟩ = some (.bool keyed)) :
    Calls Try.prog 58 #[.pointer (some ⟨f, u, none⟩)] w fun e w' => e = .returned (.bool (kind == 5 && !keyed)) ∧ w' = w := by
  by_cases hk : kind = 5
  · subst hk
    go_enter Try.func58, Try.ntmps58
    go_wp2_with fail
    go_ret
    exact ⟨by simp, rfl⟩
  · have hb : (kind == 5) = false := by simpa using hk
    rw [hb, Bool.false_and]
    go_enter Try.func58, Try.ntmps58
    go_wp2_with fail
    go_ret
    exact ⟨rfl, rfl⟩

set_option maxRecDepth 100000 in
theorem frame_inner (w : World) (own : Nat → Nat) (s f K : Nat) (fs : List FC) (n : Nat) (h : Stk w own s f K fs (n + 1)) :
    Calls Try.prog 78 #[.pointer (some ⟨s, 0, none⟩)] w fun e w' => e = .returned (.pointer (some ⟨f, n * 4, none⟩)) ∧ Below w.heap.size w w' := by
  obtain ⟨c0, c1, _⟩ := h.cells
  have hn := h.hn
  have hl := h.hl
  generalize fs.length = D at *
  have RI := fun w => run_frame w f D D n (n : Int) rfl (by omega)
  have e1 : ((n + 1 : Nat) : Int) = (n : Int) + 1 := by omega
  rw [e1] at c1
  have e2 : ¬ (n : Int) + 1 = 0 := by omega
  clear h e1
  go_enter Try.func78, Try.ntmps78
  go_wp2_with fail
  go_region
  go_wp2_with fail
  go_ret
  exact ⟨rfl, below_drawn (Below.refl _ _)⟩
theorem frame_inner0 (w : World) (own : Nat → Nat) (s f K : Nat) (fs : List FC) (h : Stk w own s f K fs 0) :
    Calls Try.prog 78 #[.pointer (some ⟨s, 0, none⟩)] w fun e w' => e = .returned (.pointer none) ∧ Below w.heap.size w w' := by
  obtain ⟨c0, c1, _⟩ := h.cells
  have e1 : ((0 : Nat) : Int) = 0 := rfl
  rw [e1] at c1
  clear h e1
  go_enter Try.func78, Try.ntmps78
  go_wp2_with fail
  go_ret
  exact ⟨rfl, Below.refl _ _⟩

/-- A frame in which an item has ended. -/
def FC.taken (x : FC) : FC := if x.waits then { x with keyed := true, k := ⟨x.k.g, x.k.q, x.k.p, x.k.b, [], true⟩ } else { x with keyed := false, left := x.left - 1 }
def FC.rise (x : FC) : Bool := if x.waits then !x.k.e || ahead x.k.a x.k.b else true
def FC.fullT (x : FC) : Bool := !x.waits && x.left == 1
def Mine (own : Nat → Nat) (i : Nat) : Prop := own i ≠ 0
theorem Mine.of {own : Nat → Nat} {i k : Nat} (h : own i = k + 1) : Mine own i := by unfold Mine; omega
theorem Stk.keys {w : World} {own : Nat → Nat} {s f K : Nat} {fs : List FC} {n : Nat} (h : Stk w own s f K fs n) {i : Nat} {x : FC} (hx : fs[i]? = some x) : Ks w x.k.g x.k.p x.k.q K x.k.a x.k.b x.k.e := (h.ks i x hx).1

set_option maxRecDepth 100000 in
theorem frame_take (w : World) (own : Nat → Nat) (s f K : Nat) (fs : List FC) (n i : Nat) (x : FC) (h : Stk w own s f K fs n) (hx : fs[i]? = some x) (h1 : 1 ≤ x.left) (h2 : x.left < 18446744073709551616) :
    Calls Try.prog 79 #[.pointer (some ⟨f, i * 4, none⟩)] w fun e w' => e = .returned (.tuple #[.bool x.rise, .bool x.fullT]) ∧ Stk w' own s f K (fs.set i x.taken) n ∧ Wi (Mine own) w w' := by
  obtain ⟨d0, d1, d2, d3, hf⟩ := h.fcell hx
  have mf := Lib.hid (Mine.of h.of)
  cases hw : x.waits with
  | true =>
    have HW := Lib.hid (frame_waits w f (i * 4) x.kind x.keyed d1 d3)
    rw [show (x.kind == 5 && !x.keyed) = true from hw] at HW
    have er : x.rise = (!x.k.e || ahead x.k.a x.k.b) := by unfold FC.rise; rw [if_pos hw]
    have ef : x.fullT = false := by unfold FC.fullT; rw [hw]; rfl
    have et : x.taken = { x with keyed := true, k := ⟨x.k.g, x.k.q, x.k.p, x.k.b, [], true⟩ } := by unfold FC.taken; rw [if_pos hw]
    rw [er, ef, et]
    have S1 := h.setF (x' := { x with keyed := true }) (v := .bool true) hx (by decide : 3 < 4) rfl rfl
    have hx1 : (fs.set i { x with keyed := true })[i]? = some { x with keyed := true } := List.getElem?_set_self (lt_of_get hx)
    obtain ⟨_, k2, k3, k4, k5, k6⟩ := h.ks i x hx
    have W1 := Lib.hid (Wi.ofOnly (S := Mine own) ((Only.refl f w).put (i * 4 + 3) (.bool true)) mf.out)
    have f3 := hf (i * 4 + 3)
    generalize hw1 : w.setCell ⟨f, i * 4 + 3, none⟩ (.bool true) = w1 at *
    obtain ⟨e0, e1, e2, e3, _⟩ := S1.fcell hx1
    dsimp only at e0 e1 e2 e3
    have HE := Lib.hid (order_End w1 _ _ _ _ _ _ _ (S1.keys hx1) k5 k6)
    have HF : Hid (∀ w', Ks w' x.k.g x.k.q x.k.p K x.k.b [] true → Tri x.k.g x.k.p x.k.q w1 w' → Stk w' own s f K (fs.set i { x with keyed := true, k := ⟨x.k.g, x.k.q, x.k.p, x.k.b, [], true⟩ }) n ∧ Wi (Mine own) w w') := fun w' hk ht => by
      have := S1.setK (k' := ⟨x.k.g, x.k.q, x.k.p, x.k.b, [], true⟩) hx1 ht rfl k4 k3 hk k6 (fun y hy => by cases hy)
      rw [List.set_set] at this
      exact ⟨this, W1.out.trans (.ofTri ht (Mine.of k2) (Mine.of k3) (Mine.of k4))⟩
    dsimp only at HE
    generalize (!x.k.e || ahead x.k.a x.k.b) = r at *
    generalize x.k.g = g at *
    clear h S1 hx1 er ef et hw hf
    go_enter Try.func79, Try.ntmps79
    go_wp2_with fail
    refine HW.out.mono ?_
    rintro e w' ⟨rfl, rfl⟩
    go_wp2_with fail
    refine HE.out.mono ?_
    rintro e w' ⟨rfl, hk, ht⟩
    have HK := Lib.hid (HF.out w' hk ht)
    clear hk ht
    go_wp2_with fail
    refine bodyPost_ret (results_tmp2 rfl _ _ _) rfl ?_
    exact ⟨rfl, HK.out⟩
  | false =>
    have HW := Lib.hid (frame_waits w f (i * 4) x.kind x.keyed d1 d3)
    rw [show (x.kind == 5 && !x.keyed) = false from hw] at HW
    have er : x.rise = true := by unfold FC.rise; rw [if_neg (by simp [hw])]
    have ef : x.fullT = (x.left - 1 == 0) := by unfold FC.fullT; rw [hw]; simp; rw [Bool.eq_iff_iff]; simp; omega
    have et : x.taken = { x with keyed := false, left := x.left - 1 } := by unfold FC.taken; rw [if_neg (by simp [hw])]
    rw [er, ef, et]
    have S1 := h.setF (x' := { x with keyed := false }) (v := .bool false) hx (by decide : 3 < 4) rfl rfl
    have hx1 : (fs.set i { x with keyed := false })[i]? = some { x with keyed := false } := List.getElem?_set_self (lt_of_get hx)
    have W1 := Lib.hid (Wi.ofOnly (S := Mine own) ((Only.refl f w).put (i * 4 + 3) (.bool false)) mf.out)
    have f3 := hf (i * 4 + 3)
    generalize hw1 : w.setCell ⟨f, i * 4 + 3, none⟩ (.bool false) = w1 at *
    obtain ⟨e0, e1, e2, e3, fz⟩ := S1.fcell hx1
    have f2 := fz (i * 4 + 2)
    have S2 := S1.setF (x' := { x with keyed := false, left := x.left - 1 }) (v := .int .u64 (x.left - 1)) hx1 (by decide : 2 < 4) rfl rfl
    rw [List.set_set] at S2
    have hx2 : (fs.set i { x with keyed := false, left := x.left - 1 })[i]? = some { x with keyed := false, left := x.left - 1 } := List.getElem?_set_self (lt_of_get hx)
    have W2 := Lib.hid (W1.out.trans (Wi.ofOnly (S := Mine own) ((Only.refl f w1).put (i * 4 + 2) (.int .u64 (x.left - 1))) mf.out))
    obtain ⟨w2, hw2⟩ : ∃ w2, w1.setCell ⟨f, i * 4 + 2, none⟩ (.int .u64 (x.left - 1)) = w2 := ⟨_, rfl⟩
    rw [hw2] at S2 W2
    obtain ⟨g0, g1, g2, g3, _⟩ := S2.fcell hx2
    dsimp only at e0 e1 e2 e3 g0 g1 g2 g3
    have HS2 := Lib.hid S2
    clear h S1 hx1 er ef et hw hf S2 hx2 fz
    generalize x.left = L at *
    go_enter Try.func79, Try.ntmps79
    go_wp2_with fail
    refine HW.out.mono ?_
    rintro e w' ⟨rfl, rfl⟩
    go_wp2_with fail
    go_region
    go_wp2_with fail
    refine bodyPost_ret (results_tmp2 rfl _ _ _) rfl ?_
    exact ⟨rfl, HS2.out.on (below_drawn (Below.refl _ _)), W2.out.drew⟩
end Go.Proofs.Ytchhbcmkhbfpoaa

/- Plain floats: a format's sign, number and power; what is wide, what is shortest. -/
namespace Go.Proofs.Ytchhbcmkhbfpoaa

/-- The formats: width in bytes; the bits of the exponent, of the fraction; the least power (in halves of the least double). -/
inductive Fm : Int → Nat → Nat → Nat → Prop
  | half : Fm 2 5 10 1050
  | single : Fm 4 8 23 925
  | double : Fm 8 11 52 0

def fsg (E F x : Nat) : Nat := x / 2 ^ (E + F) % 2
def fex (E F x : Nat) : Nat := x / 2 ^ F % 2 ^ E
def ffr (F x : Nat) : Nat := x % 2 ^ F
def fnum (E F x : Nat) : Nat := if fex E F x = 0 then ffr F x else ffr F x + 2 ^ F
def fpow (E F O x : Nat) : Nat := fex E F x - 1 + O
/-- The value of a finite float, its sign apart. -/
def fval (E F O x : Nat) : Nat := fnum E F x * 2 ^ fpow E F O x
def fenc (E F O s M q : Nat) : Nat := s * 2 ^ (E + F) + (if M < 2 ^ F then M else (q - O + 1) * 2 ^ F + (M - 2 ^ F))
/-- A number and a power as a form has them. -/
def FNF (F O M q : Nat) : Prop := O ≤ q ∧ M < 2 ^ (F + 1) ∧ (2 ^ F ≤ M ∨ q = O)

section
variable {W : Int} {E F O x y : Nat}
theorem f_split (h : Fm W E F O) (hx : x < 2 ^ (1 + E + F)) : x = fsg E F x * 2 ^ (E + F) + fex E F x * 2 ^ F + ffr F x := by
  cases h <;> simp only [fsg, fex, ffr] at * <;> omega
theorem f_small (h : Fm W E F O) (x : Nat) : fsg E F x < 2 ∧ fex E F x < 2 ^ E ∧ ffr F x < 2 ^ F := by
  cases h <;> simp only [fsg, fex, ffr] <;> omega
/-- Put together out of parts. -/
theorem f_parts (h : Fm W E F O) {s e f : Nat} (hs : s < 2) (he : e < 2 ^ E) (hf : f < 2 ^ F) :
    s * 2 ^ (E + F) + e * 2 ^ F + f < 2 ^ (1 + E + F) ∧ fsg E F (s * 2 ^ (E + F) + e * 2 ^ F + f) = s ∧ fex E F (s * 2 ^ (E + F) + e * 2 ^ F + f) = e ∧ ffr F (s * 2 ^ (E + F) + e * 2 ^ F + f) = f := by
  cases h <;> simp only [fsg, fex, ffr] at * <;> omega
theorem f_nf (h : Fm W E F O) (x : Nat) : FNF F O (fnum E F x) (fpow E F O x) := by
  have := f_small h x
  unfold FNF fnum fpow
  cases h <;> split <;> omega
theorem f_enc (h : Fm W E F O) (hx : x < 2 ^ (1 + E + F)) : fenc E F O (fsg E F x) (fnum E F x) (fpow E F O x) = x := by
  have h1 := f_small h x
  have h2 := f_split h hx
  unfold fenc fnum fpow
  cases h <;> split <;> split <;> omega
/-- What a number and a power are as a form. -/
theorem f_dec (h : Fm W E F O) {s M q : Nat} (hs : s < 2) (hn : FNF F O M q) (hq : q - O + 1 < 2 ^ E - 1) :
    fenc E F O s M q < 2 ^ (1 + E + F) ∧ fsg E F (fenc E F O s M q) = s ∧ fex E F (fenc E F O s M q) < 2 ^ E - 1 ∧ fnum E F (fenc E F O s M q) = M ∧ fpow E F O (fenc E F O s M q) = q := by
  obtain ⟨h1, h2, h3⟩ := hn
  by_cases hM : M < 2 ^ F
  · have e : fenc E F O s M q = s * 2 ^ (E + F) + 0 * 2 ^ F + M := by unfold fenc; rw [if_pos hM]; omega
    have he : 0 < 2 ^ E := Nat.two_pow_pos E
    obtain ⟨p1, p2, p3, p4⟩ := f_parts h hs he hM
    rw [e]
    refine ⟨p1, p2, by omega, ?_, ?_⟩
    · unfold fnum; rw [p3, if_pos rfl, p4]
    · unfold fpow; rw [p3]; omega
  · have e : fenc E F O s M q = s * 2 ^ (E + F) + (q - O + 1) * 2 ^ F + (M - 2 ^ F) := by unfold fenc; rw [if_neg hM]; omega
    have hf : M - 2 ^ F < 2 ^ F := by rw [Nat.pow_succ] at h2; omega
    obtain ⟨p1, p2, p3, p4⟩ := f_parts h hs (show q - O + 1 < 2 ^ E by omega) hf
    rw [e]
    refine ⟨p1, p2, by omega, ?_, ?_⟩
    · unfold fnum; rw [p3, if_neg (by omega), p4]; omega
    · unfold fpow; rw [p3]; omega

theorem nf_low {F O M q M' q' : Nat} (h : FNF F O M q) (h' : FNF F O M' q') (e : M * 2 ^ q = M' * 2 ^ q') : ¬ q < q' := by
  intro hlt
  obtain ⟨a, b, c⟩ := h
  obtain ⟨a', b', c'⟩ := h'
  have hM : 2 ^ F ≤ M' := by omega
  have : q' = q + (q' - q) := by omega
  rw [this, Nat.pow_add, ← Nat.mul_assoc, Nat.mul_right_comm] at e
  have e2 := Nat.eq_of_mul_eq_mul_right (Nat.two_pow_pos q) e
  have hp : 2 ≤ 2 ^ (q' - q) := by
    have := Nat.pow_le_pow_right (show 0 < 2 by decide) (show 1 ≤ q' - q by omega)
    omega
  have := Nat.mul_le_mul hM hp
  rw [Nat.pow_succ] at b
  omega
theorem nf_same {F O M q M' q' : Nat} (h : FNF F O M q) (h' : FNF F O M' q') (e : M * 2 ^ q = M' * 2 ^ q') : M = M' ∧ q = q' := by
  have a := nf_low h h' e
  have b := nf_low h' h e.symm
  have hq : q = q' := by omega
  subst hq
  exact ⟨Nat.eq_of_mul_eq_mul_right (Nat.two_pow_pos q) e, rfl⟩
/-- A form is known by its sign and its value. -/
theorem f_inj (h : Fm W E F O) (hx : x < 2 ^ (1 + E + F)) (hy : y < 2 ^ (1 + E + F)) (hs : fsg E F x = fsg E F y) (hv : fval E F O x = fval E F O y) : x = y := by
  obtain ⟨a, b⟩ := nf_same (f_nf h x) (f_nf h y) hv
  rw [← f_enc h hx, ← f_enc h hy, hs, a, b]

def FNan (E F x : Nat) : Prop := fex E F x = 2 ^ E - 1 ∧ ffr F x ≠ 0
instance instFNan (E F x : Nat) : Decidable (FNan E F x) := by unfold FNan; exact inferInstance
def finf (E F s : Nat) : Nat := s * 2 ^ (E + F) + (2 ^ E - 1) * 2 ^ F
/-- The double x is the form y, wider. -/
def Wide (E F O y x : Nat) : Prop :=
  y < 2 ^ (1 + E + F) ∧ x < 2 ^ 64 ∧ ((FNan E F y ∧ x = 9221120237041090560) ∨ (fex E F y = 2 ^ E - 1 ∧ ffr F y = 0 ∧ x = finf 11 52 (fsg E F y)) ∨
    (fex E F y < 2 ^ E - 1 ∧ fex 11 52 x < 2047 ∧ fsg 11 52 x = fsg E F y ∧ fval 11 52 0 x = fval E F O y))
theorem inf_parts (h : Fm W E F O) {s : Nat} (hs : s < 2) : finf E F s < 2 ^ (1 + E + F) ∧ fsg E F (finf E F s) = s ∧ fex E F (finf E F s) = 2 ^ E - 1 ∧ ffr F (finf E F s) = 0 := by
  have := f_parts h hs (show 2 ^ E - 1 < 2 ^ E by have := Nat.two_pow_pos E; omega) (Nat.two_pow_pos F)
  exact this
theorem inf_of (h : Fm W E F O) (hx : x < 2 ^ (1 + E + F)) (he : fex E F x = 2 ^ E - 1) (hf : ffr F x = 0) : x = finf E F (fsg E F x) := by
  have := f_split h hx
  rw [he, hf] at this
  exact this
theorem nan_wide : FNan 11 52 9221120237041090560 := by unfold FNan fex ffr; decide
theorem wide_fun (_h : Fm W E F O) {x' : Nat} (a : Wide E F O y x) (b : Wide E F O y x') : x = x' := by
  obtain ⟨_, ax, a⟩ := a
  obtain ⟨_, bx, b⟩ := b
  rcases a with ⟨⟨a1, a2⟩, a3⟩ | ⟨a1, a2, a3⟩ | ⟨a1, a2, a3, a4⟩ <;> rcases b with ⟨⟨b1, b2⟩, b3⟩ | ⟨b1, b2, b3⟩ | ⟨b1, b2, b3, b4⟩ <;> first | omega | skip
  exact f_inj .double ax bx (a3.trans b3.symm) (a4.trans b4.symm)
theorem wide_inj (h : Fm W E F O) {y' : Nat} (a : Wide E F O y x) (b : Wide E F O y' x) (hx : ¬ FNan 11 52 x) : y = y' := by
  obtain ⟨ay, ax, a⟩ := a
  obtain ⟨yb, bx, b⟩ := b
  rcases a with ⟨⟨a1, a2⟩, a3⟩ | ⟨a1, a2, a3⟩ | ⟨a1, a2, a3, a4⟩
  · exact absurd (a3 ▸ nan_wide) hx
  all_goals rcases b with ⟨⟨b1, b2⟩, b3⟩ | ⟨b1, b2, b3⟩ | ⟨b1, b2, b3, b4⟩
  · exact absurd (b3 ▸ nan_wide) hx
  · have i1 := inf_parts .double (f_small h y).1
    have i2 := inf_parts .double (f_small h y').1
    rw [← a3] at i1
    rw [← b3] at i2
    rw [inf_of h ay a1 a2, inf_of h yb b1 b2, ← i1.2.1, ← i2.2.1]
  · have i1 := inf_parts .double (f_small h y).1
    rw [← a3] at i1
    omega
  · exact absurd (b3 ▸ nan_wide) hx
  · have i1 := inf_parts .double (f_small h y').1
    rw [← b3] at i1
    omega
  · exact f_inj h ay yb (a3.symm.trans b3) (a4.symm.trans b4)
/-- The shortest form of the double x is z, of v bytes. -/
def Shortest (x z v : Nat) : Prop :=
  (FNan 11 52 x ∧ z = 32256 ∧ v = 2) ∨ (¬ FNan 11 52 x ∧ ((v = 2 ∧ Wide 5 10 1050 z x) ∨ (v = 4 ∧ Wide 8 23 925 z x ∧ ∀ y, ¬ Wide 5 10 1050 y x) ∨
    (v = 8 ∧ z = x ∧ (∀ y, ¬ Wide 5 10 1050 y x) ∧ ∀ y, ¬ Wide 8 23 925 y x)))
theorem shortest_fun {z v z' v' : Nat} (a : Shortest x z v) (b : Shortest x z' v') : z = z' ∧ v = v' := by
  rcases a with ⟨a0, a1, a2⟩ | ⟨a0, a⟩ <;> rcases b with ⟨b0, b1, b2⟩ | ⟨b0, b⟩
  · omega
  · exact absurd a0 b0
  · exact absurd b0 a0
  rcases a with ⟨a1, a2⟩ | ⟨a1, a2, a3⟩ | ⟨a1, a2, a3, a4⟩ <;> rcases b with ⟨b1, b2⟩ | ⟨b1, b2, b3⟩ | ⟨b1, b2, b3, b4⟩
  · exact ⟨wide_inj .half a2 b2 a0, by omega⟩
  · exact absurd a2 (b3 _)
  · exact absurd a2 (b3 _)
  · exact absurd b2 (a3 _)
  · exact ⟨wide_inj .single a2 b2 a0, by omega⟩
  · exact absurd a2 (b4 _)
  · exact absurd b2 (a3 _)
  · exact absurd b2 (a4 _)
  · omega
end
end Go.Proofs.Ytchhbcmkhbfpoaa
