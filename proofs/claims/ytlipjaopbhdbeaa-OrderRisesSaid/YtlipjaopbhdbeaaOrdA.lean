
/- Package order: keys in memory, its functions. -/
import Derived.Test.YtlipjaopbhdbeaaRows
import Derived.Test.YtlipjaopbhdbeaaEncC
import Derived.Test.YtlipjaopbhdbeaaOwnAt
import Derived.Test.YtlipjaopbhdbeaaList
import Derived.RegionTactic
import Derived.BigRegion
import Derived.Deep.RegionHeld3
namespace Go.Proofs.Ytlipjaopbhdbeaa
open Go.RowKit

/-- Of the blocks that were there only three have turned. -/
structure Tri (g p q : Nat) (w w' : World) : Prop where
  os : w'.os = w.os
  tape : w'.tape = w.tape
  output : w'.output = w.output
  size : w.heap.size ≤ w'.heap.size
  block : ∀ i, i < w.heap.size → i ≠ g → i ≠ p → i ≠ q → w'.heap[i]? = w.heap[i]?
section
variable {g p q B : Nat} {w w' w'' : World}
theorem Tri.refl : Tri g p q w w := ⟨rfl, rfl, rfl, Nat.le_refl _, fun _ _ _ _ _ => rfl⟩
theorem Tri.trans (h : Tri g p q w w') (k : Tri g p q w' w'') : Tri g p q w w'' :=
  ⟨k.os.trans h.os, k.tape.trans h.tape, k.output.trans h.output, Nat.le_trans h.size k.size, fun i hi a b c => (k.block i (Nat.lt_of_lt_of_le hi h.size) a b c).trans (h.block i hi a b c)⟩
theorem Tri.below (h : Tri g p q w w') (hs : B ≤ w.heap.size) (a : B ≤ g) (b : B ≤ p) (c : B ≤ q) : Below B w w' :=
  ⟨h.os, h.tape, h.output, h.size, fun i hi => h.block i (by omega) (by omega) (by omega) (by omega)⟩
theorem Tri.ofBelow (h : Below w.heap.size w w') : Tri g p q w w' := ⟨h.os, h.tape, h.output, h.size, fun i hi _ _ _ => h.block i hi⟩
theorem Tri.swap (h : Tri g p q w w') : Tri g q p w w' := ⟨h.os, h.tape, h.output, h.size, fun i hi a b c => h.block i hi a c b⟩
theorem Tri.on {i : Nat} {t : TypeId} {cs : Array Value} (h : Tri g p q w w') (hb : Blk w i t cs) (a : i ≠ g) (b : i ≠ p) (c : i ≠ q) : Blk w' i t cs := (h.block i hb.lt a b c).trans hb
theorem Tri.ofG (h : Only g w w') : Tri g p q w w' := ⟨h.os, h.tape, h.output, h.size, fun i hi a _ _ => h.block i hi (fun e => a (by injection e))⟩
theorem Tri.ofQ (h : Only q w w') : Tri g p q w w' := ⟨h.os, h.tape, h.output, h.size, fun i hi _ _ a => h.block i hi (fun e => a (by injection e))⟩
end

/-- A Keys in block g: the last key a in block p, the next one b in block q, each with room for m; e: one was ended. -/
structure Ks (w : World) (g p q m : Nat) (a b : List Int) (e : Bool) : Prop where
  blk : Blk w g 57 #[.slice (some ⟨p, 0, none⟩) a.length m, .slice (some ⟨q, 0, none⟩) b.length m, .int .i64 m, .bool e]
  pq : p ≠ q
  pg : p ≠ g
  qg : q ≠ g
  ow1 : Own w 0 .u8 5 (.slice (some ⟨p, 0, none⟩) a.length m) a
  ow2 : Own w 0 .u8 5 (.slice (some ⟨q, 0, none⟩) b.length m) b
  lp : p < w.heap.size
  lq : q < w.heap.size
  le1 : a.length ≤ m
  le2 : b.length ≤ m
  lem : m ≤ 1024
section
variable {g p q m : Nat} {w w' : World} {a b : List Int} {e : Bool}
theorem Own.on1 {B k t n c zs} (h : Own w B k t (.slice (some ⟨g, 0, none⟩) n c) zs) (hb : w'.heap[g]? = w.heap[g]?) : Own w' B k t (.slice (some ⟨g, 0, none⟩) n c) zs := by
  obtain ⟨h1, h2⟩ := h
  refine ⟨h1, ?_⟩
  rcases h2 with h2 | ⟨g', cap, cur, hv, hg, hh, r⟩
  · exact .inl h2
  · injection hv with e1 e2 e3
    injection e1 with e1
    injection e1 with e1
    subst e1
    exact .inr ⟨g, cap, cur, by rw [e2, e3], hg, by rw [hb]; exact hh, r⟩
/-- Kept where none of its blocks turns. -/
theorem Ks.keep (h : Ks w g p q m a b e) (hs : w.heap.size ≤ w'.heap.size) (hg : w'.heap[g]? = w.heap[g]?) (hp : w'.heap[p]? = w.heap[p]?) (hq : w'.heap[q]? = w.heap[q]?) : Ks w' g p q m a b e :=
  ⟨hg.trans h.blk, h.pq, h.pg, h.qg, h.ow1.on1 hp, h.ow2.on1 hq, Nat.lt_of_lt_of_le h.lp hs, Nat.lt_of_lt_of_le h.lq hs, h.le1, h.le2, h.lem⟩
theorem Ks.on (h : Ks w g p q m a b e) (hb : Below w.heap.size w w') : Ks w' g p q m a b e := h.keep hb.size (hb.block _ h.blk.lt) (hb.block _ h.lp) (hb.block _ h.lq)
theorem Ks.only {i : Nat} (h : Ks w g p q m a b e) (ho : Only i w w') (h1 : g ≠ i) (h2 : p ≠ i) (h3 : q ≠ i) : Ks w' g p q m a b e :=
  h.keep ho.size (ho.block _ h.blk.lt (fun e => h1 (by injection e))) (ho.block _ h.lp (fun e => h2 (by injection e))) (ho.block _ h.lq (fun e => h3 (by injection e)))
theorem Ks.cells (h : Ks w g p q m a b e) : w.cell? ⟨g, 0, none⟩ = some (.slice (some ⟨p, 0, none⟩) a.length m) ∧ w.cell? ⟨g, 1, none⟩ = some (.slice (some ⟨q, 0, none⟩) b.length m) ∧ w.cell? ⟨g, 2, none⟩ = some (.int .i64 m) ∧ w.cell? ⟨g, 3, none⟩ = some (.bool e) ∧ ∀ i, w.frozen? ⟨g, i, none⟩ = false :=
  ⟨h.blk.cell 0, h.blk.cell 1, h.blk.cell 2, h.blk.cell 3, h.blk.free⟩
theorem Ks.rd1 (h : Ks w g p q m a b e) : Rd w w.heap.size .u8 (some ⟨p, 0, none⟩) a := by
  obtain ⟨A, cap, hv, _, _, _, _, h5⟩ := h.ow1.form
  injection hv with e1
  rw [e1]; exact h5
theorem Ks.rd2 (h : Ks w g p q m a b e) : Rd w w.heap.size .u8 (some ⟨q, 0, none⟩) b := by
  obtain ⟨A, cap, hv, _, _, _, _, h5⟩ := h.ow2.form
  injection hv with e1
  rw [e1]; exact h5
theorem Own.lt0 {B k t n c zs} (h : Own w B k t (.slice (some ⟨g, 0, none⟩) n c) zs) : g < w.heap.size := by
  rcases h.2 with ⟨h2, _⟩ | ⟨g', cap, cur, hv, hg, hh, r⟩
  · cases h2
  · injection hv with e1 e2 e3
    injection e1 with e1
    injection e1 with e1
    subst e1
    exact (Array.getElem?_eq_some_iff.1 hh).1
theorem Own.zero {B k t c zs n} (h : Own w B k t (.slice (some ⟨g, 0, none⟩) n c) zs) : Own w B k t (.slice (some ⟨g, 0, none⟩) 0 c) [] := by
  obtain ⟨h1, h2⟩ := h
  refine ⟨rfl, ?_⟩
  rcases h2 with ⟨h2, _⟩ | ⟨g', cap, cur, hv, hg, hh, hn, hc, hs, ht⟩
  · cases h2
  · injection hv with e1 e2 e3
    injection e1 with e1
    injection e1 with e1
    subst e1
    subst e3
    exact .inr ⟨g, c, cur, rfl, hg, hh, Nat.zero_le _, hc, hs, by simp⟩
end

/-- Is a ahead of b? -/
def ahead (a b : List Int) : Bool := decide (seqC intC a b < 0)
set_option maxRecDepth 100000 in
theorem order_Ahead (w : World) (A1 A2 : Option Addr) (c1 c2 : Nat) (xs ys : List Int) (h1 : Rd w w.heap.size .u8 A1 xs) (h2 : Rd w w.heap.size .u8 A2 ys) (hx : ByteL xs) (hy : ByteL ys) :
    Calls Try.prog 22 #[.slice A1 xs.length c1, .slice A2 ys.length c2] w fun e w' => e = .returned (.bool (ahead xs ys)) ∧ w' = w := by
  have H := Lib.hid (bytes_compare A1 A2 c1 c2 xs ys w h1 h2 hx hy)
  have HA : Hid (ahead xs ys = decide (seqC intC xs ys < 0)) := rfl
  generalize seqC intC xs ys = z at *
  clear h1 h2 hx hy
  go_enter Try.func22, Try.ntmps22
  go_wp2_with fail
  refine H.out.mono ?_
  rintro e w' ⟨rfl, rfl⟩
  go_wp2_with fail
  go_ret
  exact ⟨by rw [HA.out]; rfl, rfl⟩

theorem order_Len_nil (w : World) : Calls Try.prog 20 #[.pointer none] w fun e w' => e = .returned (.int .i64 0) ∧ w' = w := by
  go_enter Try.func20, Try.ntmps20
  go_wp2
  go_ret
  exact ⟨rfl, rfl⟩
theorem order_Cap_nil (w : World) : Calls Try.prog 14 #[.pointer none] w fun e w' => e = .returned (.int .i64 0) ∧ w' = w := by
  go_enter Try.func14, Try.ntmps14
  go_wp2
  go_ret
  exact ⟨rfl, rfl⟩
theorem order_End_nil (w : World) : Calls Try.prog 17 #[.pointer none] w fun e w' => e = .returned (.bool false) ∧ w' = w := by
  go_enter Try.func17, Try.ntmps17
  go_wp2
  go_ret
  exact ⟨rfl, rfl⟩
theorem order_Reset_nil (w : World) : Calls Try.prog 19 #[.pointer none] w fun e w' => e = .returned (.tuple #[]) ∧ w' = w := by
  go_enter Try.func19, Try.ntmps19
  go_wp2
  refine bodyPost_ret (results_none rfl _ _ _) rfl ?_
  exact ⟨rfl, rfl⟩
theorem order_Byte_nil (w : World) (c : Int) : Calls Try.prog 15 #[.pointer none, .int .u8 c] w fun e w' => e = .returned (.bool false) ∧ Below w.heap.size w w' := by
  go_enter Try.func15, Try.ntmps15
  go_wp2
  go_region
  all_goals go_wp2
  all_goals go_ret
  all_goals exact ⟨rfl, below_drawn (Below.refl _ _)⟩

theorem order_Len (w : World) (g p q m : Nat) (a b : List Int) (e : Bool) (h : Ks w g p q m a b e) : Calls Try.prog 20 #[.pointer (some ⟨g, 0, none⟩)] w fun r w' => r = .returned (.int .i64 b.length) ∧ w' = w := by
  obtain ⟨c0, c1, c2, c3, hf⟩ := h.cells
  clear h
  go_enter Try.func20, Try.ntmps20
  go_wp2
  go_ret
  exact ⟨rfl, rfl⟩

/-- One of an array's small parts. -/
theorem run_index_part {P : Program} {t e : TypeId} {n : Nat} {d : TypeDesc} (hu : P.underlying t = some (.array n e)) (he : P.underlying e = some d) (hd : d.isRow = false) (hs : (P.info? e).map (·.size) = some 1) (cs : Array Value) (i : Nat) (hi : i < n) (v : Value) (hx : cs[i]? = some v) (w : World) :
    (Instr.index t (.agg cs) (.int .i64 i)).run P w = .ok v w := by
  have hz : ∀ w, (sizeOf e).run P w = .ok 1 w := fun w => by
    cases hq : P.info? e with
    | none => simp [hq] at hs
    | some j =>
      have : j.size = 1 := by simpa [hq] using hs
      simp [sizeOf, typeInfo, hq, this]
  have ha : (isAgg e).run P w = .ok false w := by
    unfold isAgg
    rw [Sem.run_bind, run_underlying he w]
    cases d <;> first | rfl | simp_all [TypeDesc.isRow]
  have hi' : (asIntOf (Value.int IntKind.i64 i)).run P w = .ok (.i64, (i : Int)) w := rfl
  simp [Instr.index, run_underlying hu, hz, part, ha, hi', hx, hi]
set_option maxRecDepth 100000 in
theorem order_Cap (w : World) (g p q m : Nat) (a b : List Int) (e : Bool) (h : Ks w g p q m a b e) : Calls Try.prog 14 #[.pointer (some ⟨g, 0, none⟩)] w fun r w' => r = .returned (.int .i64 (2 * m)) ∧ w' = w := by
  obtain ⟨c0, c1, c2, c3, hf⟩ := h.cells
  have hm := h.lem
  clear h
  go_enter Try.func14, Try.ntmps14
  go_wp2
  have I0 : ∀ w, (Instr.index 55 (.agg #[.slice (some ⟨p, 0, none⟩) a.length m, .slice (some ⟨q, 0, none⟩) b.length m]) (.int .i64 0)).run Try.prog w = .ok (.slice (some ⟨p, 0, none⟩) a.length m) w := fun w => run_index_part Try.underlying55 Try.underlying28 rfl rfl _ 0 (by decide) _ rfl w
  have I1 : ∀ w, (Instr.index 55 (.agg #[.slice (some ⟨p, 0, none⟩) a.length m, .slice (some ⟨q, 0, none⟩) b.length m]) (.int .i64 1)).run Try.prog w = .ok (.slice (some ⟨q, 0, none⟩) b.length m) w := fun w => run_index_part Try.underlying55 Try.underlying28 rfl rfl _ 1 (by decide) _ rfl w
  go_loop [3, 12] (fun v i => ∃ k : Nat, k ≤ 2 ∧ i = .int .i64 k ∧ v = .int .i64 (k * m)) (fun _ i => 2 - (intOf i).toNat)
  case atStart => exact ⟨0, by omega, rfl, by simp⟩
  case round =>
    obtain ⟨k, hk, rfl, rfl⟩ := hrel
    obtain rfl | rfl | rfl : k = 0 ∨ k = 1 ∨ k = 2 := by omega
    · go_wp2
      go_round
      case rel => exact ⟨1, by omega, rfl, by simp⟩
      case measure => simp [intOf]
    · go_wp2
      go_round
      case rel => exact ⟨2, by omega, rfl, by go_num⟩
      case measure => simp [intOf]
    · go_wp2
      go_ret
      exact ⟨rfl, rfl⟩
end Go.Proofs.Ytlipjaopbhdbeaa
