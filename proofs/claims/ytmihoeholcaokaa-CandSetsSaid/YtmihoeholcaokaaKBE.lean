/- The nodes that a node names: the program's Named, the document's. -/
import Derived.Test.YtmihoeholcaokaaKAP
import Derived.Test.YtmihoeholcaokaaKAF
import Derived.Test.YtmihoeholcaokaaKAH
import Derived.Deep.QuietTactic
import Derived.Deep.RegionHeld3
import Derived.Laws.Cover3
import Derived.Test.YtmihoeholcaokaaKAA
import Derived.Maps.OwnSet
import Derived.Maps.Views
import Derived.Test.YtmihoeholcaokaaChecked
namespace Go.Proofs.Ytmihoeholcaokaa
open Go.RowKit

theorem infoInt : (Try.prog.info? 3).map (fun i => (i.zero, i.size, i.bytes)) = some (some (.int .i64 0), 1, 8) := by kernel_rfl
theorem run_eql_nil (w : World) (a : Option Addr) (l c : Nat) : (binOp .eql 22 (.slice a l c) (.slice none 0 0)).run Try.prog w = .ok (.bool a.isNone) w := by
  simp only [binOp]
  simp [run_equal_slice_nil w 22 3 a l c Try.underlying22]
theorem two_below' (w : World) (a b : Obj) : Below w.heap.size w ((w.alloc a).alloc b) := (below_alloc w a).alloc (by simp) b
theorem Own.mono {w : World} {B B' : Nat} {k : IntKind} {e : TypeId} {v : Value} {zs : List Int} (h : Own w B k e v zs) (hB : B' ≤ B) : Own w B' k e v zs := by
  unfold Own at *
  exact oc_less h hB

set_option maxRecDepth 100000 in
set_option maxHeartbeats 1000000 in
theorem clone_ints (xs : List Int) (A : Option Addr) (cap n : Nat) (w : World) (hn : n ≤ w.heap.size) (hx : Rd w n .i64 A xs) (hc : xs.length ≤ cap) (hnil : A = none → cap = 0) (hm : xs.length ≤ 1099511627776) :
    Calls Try.prog 32 #[.slice A xs.length cap] w fun e w' => (∃ v, e = .returned v ∧ Own w' w.heap.size .i64 3 v xs) ∧ Below w.heap.size w w' := by
  cases A with
  | none =>
    obtain rfl := hnil rfl
    obtain rfl : xs = [] := List.length_eq_zero_iff.1 (by omega)
    have hq := fun w => run_eql_nil w none 0 0
    go_enter Try.func32, Try.ntmps32
    go_wp2_with fail
    go_ret
    exact ⟨⟨_, rfl, Own.nil _ _ _ _⟩, Below.refl _ _⟩
  | some a =>
    have O0 : Own (w.alloc (.cells #[] 3)) w.heap.size .i64 3 (.slice (some ⟨w.heap.size, 0, none⟩) 0 0) [] := Own.ofBlk (Blk.fresh w 3 (nums .i64 [])) (Nat.le_refl _) (Nat.zero_le _)
    obtain ⟨v', w', hR, hO, hB, -⟩ := run_append_nums (P := Try.prog) (t := 22) (ty := 22) (cap := cap) Try.underlying22 infoInt (by decide) O0 ((hx.below ((below_alloc w _).mono hn)).more (by simp; omega)) (fun h => by cases h) (by simpa using hm) (by simp)
    rw [List.nil_append] at hO
    have HR := Lib.hid hR
    have HO := Lib.hid hO
    have HB := Lib.hid ((below_alloc w _).trans (hB.mono (Nat.le_refl _)))
    clear hR hO hB O0 hx
    have hq := fun w => run_eql_nil w (some a) xs.length cap
    generalize xs.length = m at *
    go_enter Try.func32, Try.ntmps32
    go_wp2_with ((with_reducible refine is_append 22 rfl ?_); (with_reducible refine wpList_append_run rfl rfl HR.out ?_ ?_ ?_); (· rfl); (· rfl))
    go_ret
    exact ⟨⟨_, rfl, HO.out⟩, HB.out⟩

theorem take_map_snoc {α β : Type} (g : α → β) {l : List α} {k : Nat} {x : α} (h : l[k]? = some x) : (l.take (k + 1)).map g = (l.take k).map g ++ [g x] := by
  obtain ⟨hk, rfl⟩ := List.getElem?_eq_some_iff.1 h
  rw [List.take_succ_eq_append_getElem hk, List.map_append]
  rfl

set_option maxRecDepth 100000 in
set_option maxHeartbeats 2000000 in
theorem sch_Named (x : Nd) (p : Pl) (n : Nat) (w : World) (hn : n ≤ w.heap.size) (hx : NdB w n x p) (hlf : x.l.length + x.f.length ≤ 1099511627776) :
    Calls Try.prog 28 #[vN x p] w fun e w' => (∃ v, e = .returned v ∧ Own w' w.heap.size .i64 3 v (namedN x)) ∧ Below w.heap.size w w' := by
  obtain ⟨Av, cv, Al, cl, Af, cf⟩ := p
  have b1 := Blk.fresh w 42 (nc x ⟨Av, cv, Al, cl, Af, cf⟩)
  have S := below_alloc w (.cells (nc x ⟨Av, cv, Al, cl, Af, cf⟩) 42)
  obtain ⟨w1, hw1⟩ : ∃ w1, w.alloc (.cells (nc x ⟨Av, cv, Al, cl, Af, cf⟩) 42) = w1 := ⟨_, rfl⟩
  rw [hw1] at b1 S
  have hs1 : w1.heap.size = w.heap.size + 1 := by rw [← hw1]; simp
  have HC := Lib.hid (clone_ints x.l Al cl n w1 (Nat.le_trans hn S.size) (hx.l.below (S.mono hn)) hx.ll hx.ln (by omega))
  have HF : Hid (∀ W, Below w.heap.size w W → RdF W n Af x.f) := Lib.hid fun W hW => hx.f.keep (hW.mono hn)
  have HB := Lib.hid b1
  have HS := Lib.hid S
  unfold nc at b1 hw1
  obtain ⟨p0, p1, p2, p3, p4, p5, p6, p7, p8⟩ := nblk b1
  have HLF := Lib.hid hlf
  obtain ⟨m, hm⟩ : ∃ m, x.f.length = m := ⟨_, rfl⟩
  rw [hm] at p8 hw1
  have HM := Lib.hid hm
  have HS1 := Lib.hid hs1
  have hml : (m : Int) < 1099511627777 := by omega
  clear S b1 hx hn hlf hm hs1
  simp only [vN]
  have hm := HM.out
  rw [hm]
  clear hm
  go_enter Try.func28, Try.ntmps28
  go_wp2_with (go_at_call 32; refine HC.out.mono ?_; rintro e w2 ⟨⟨v, rfl, hO⟩, hb2⟩; obtain ⟨-, -, -, -, -, -, -, s7, s8⟩ := nblk (HB.out.on hb2); rw [HM.out] at s8; have HO := Lib.hid hO; have HB2 := Lib.hid hb2; clear hO hb2)
  clear p0 p1 p2 p3 p4 p5 p6 p7 p8 s7 s8 hw1
  go_loopw [3, 5, 12] (fun v a i wr => ∃ k : Nat, k ≤ m ∧ i = .int .i64 (k : Int) ∧ Hid (Below w1.heap.size w1 wr) ∧ Hid (Own wr w1.heap.size .i64 3 v (x.l ++ (x.f.take k).map Fl.node))) (fun _ _ i _ => m - (intOf i).toNat)
  case atStart => exact ⟨0, by omega, rfl, HB2, Lib.hid (by simpa using HO.out)⟩
  case round =>
    obtain ⟨k, hk, rfl, HBr, HOr⟩ := hrel
    by_cases hlt : k < m
    · obtain ⟨b, o, fd, rfl, -, -, X, c0, c1, c2⟩ := (HF.out wr (HS.out.trans (HBr.out.mono HS.out.size))).get (i := k) (by rw [HM.out]; exact hlt)
      have OW := (HOr.out.alloc (.cells #[.string fd.key, .int .i64 fd.node, .bool fd.opt] 61)).alloc (.cells #[.int .i64 fd.node] 3)
      have bN : Blk ((wr.alloc (.cells #[.string fd.key, .int .i64 fd.node, .bool fd.opt] 61)).alloc (.cells #[.int .i64 fd.node] 3)) (wr.heap.size + 1) 3 (nums .i64 [fd.node]) := Blk.freshAt _ _ _ _ (by simp)
      obtain ⟨v', w', hR, hO', hB', -⟩ := run_append_nums (P := Try.prog) (t := 22) (ty := 22) (cap := 1) Try.underlying22 infoInt (by decide) OW bN.rd (fun h => by cases h) (by
        have h1 := HLF.out
        have h2 := HM.out
        simp only [List.length_append, List.length_map, List.length_take, List.length_singleton]
        omega) (by have := HBr.out.size; simp; omega)
      simp only [List.length_singleton] at hR
      have HR := Lib.hid hR
      have HX := Lib.hid X
      have HO2 : Hid (Own w' w1.heap.size .i64 3 v' (x.l ++ (x.f.take (k + 1)).map Fl.node)) := Lib.hid (by rw [take_map_snoc Fl.node X, ← List.append_assoc]; exact hO')
      have HB3 : Hid (Below w1.heap.size w1 w') := Lib.hid (HBr.out.trans ((two_below' wr _ _).mono HBr.out.size |>.trans hB'))
      clear hR hO' hB' OW bN X
      go_wp2_with ((with_reducible refine is_append 22 rfl ?_); (with_reducible refine wpList_append_run rfl rfl HR.out ?_ ?_ ?_); (· rfl); (· rfl))
      go_roundw
      case rel => exact ⟨k + 1, by omega, by simp, HB3, HO2⟩
      case measure => simp [intOf]; omega
    · obtain rfl : k = m := by omega
      go_wp2_with fail
      go_ret
      refine ⟨⟨_, rfl, ?_⟩, HS.out.trans (HBr.out.mono HS.out.size)⟩
      have := HOr.out
      rw [← HM.out, List.take_length] at this
      exact this.mono (by have := HS1.out; omega)

end Go.Proofs.Ytmihoeholcaokaa

/- A set of texts that a call made itself: map[string]bool, asked and stored into. -/
namespace Go.Proofs.Ytmihoeholcaokaa
open Go.RowKit Go.Maps Go.WideMaps

open Classical in
/-- Block b is a map of at most n texts: true of those of M, and of no others. -/
def SetM (w : World) (b n : Nat) (M : ByteArray → Prop) : Prop :=
  ∃ D : DataW Unit, w.ownsMap Try.prog 9 (plainElem Try.prog 4) b n D ∧ ∀ s : ByteArray, s.size ≤ maxLen → D.atKey (.string s.data.toList) (.lit (.bool false)) = .lit (.bool (decide (M s)))
theorem strKeyed : Keyed Try.prog 9 := string_keyed Try.underlying9
theorem zeroBool (w : World) : (zeroValue 4).run Try.prog w = .ok (.bool false) w := by kernel_rfl
theorem plainElem_bool_inv {H : Type} {P : Program} {e : TypeId} (he : P.underlying e = some .bool) {v : Value} {z : DataW H × List MemPlace} (h : plainElem P e v = some z) : ∃ x, v = .bool x ∧ z = (.lit (.bool x), []) := by
  unfold plainElem at h
  rw [he] at h
  cases v <;> simp at h
  exact ⟨_, rfl, h.symm⟩
section
variable {w w' : World} {b n : Nat} {M : ByteArray → Prop}
theorem SetM.made (w : World) : SetM (w.alloc (.map #[] 0)) w.heap.size 0 fun _ => False :=
  ⟨.map [], World.ownsMap_made _ _ _ _, fun s _ => by simp [DataW.atKey]⟩
theorem SetM.lt (h : SetM w b n M) : b < w.heap.size := by obtain ⟨D, h, _⟩ := h; exact h.lt
theorem SetM.kept {row : Option Nat} (h : SetM w b n M) (hg : w.grownBy w' row) (hne : some b ≠ row) : SetM w' b n M := by
  obtain ⟨D, h1, h2⟩ := h
  exact ⟨D, h1.kept hg hne, h2⟩
theorem SetM.on (h : SetM w b n M) (hb : Below w.heap.size w w') : SetM w' b n M := h.kept (Only.ofBelow (g := b + 1) hb) (by simp)
theorem SetM.congr {M' : ByteArray → Prop} (h : SetM w b n M) (hM : ∀ s, M s ↔ M' s) : SetM w b n M' := by
  obtain rfl : M = M' := funext fun s => propext (hM s)
  exact h
theorem SetM.mono {n' : Nat} (h : SetM w b n M) (hn : n ≤ n') : SetM w b n' M := by
  obtain ⟨D, h1, h2⟩ := h
  exact ⟨D, h1.mono hn, h2⟩
open Classical in
theorem SetM.look (h : SetM w b n M) {s : ByteArray} (hs : s.size ≤ maxLen) : (Instr.lookup 71 (.map (some b)) (.string s) false).run Try.prog w = .ok (.bool (decide (M s))) w := by
  obtain ⟨D, h1, h2⟩ := h
  obtain ⟨v, ps, hrun, hv⟩ := h1.lookup strKeyed Try.underlying71 (zeroBool w) (plainElem_bool Try.underlying4 false) (keyOf_string_mk Try.underlying9 hs)
  obtain ⟨x, rfl, hx⟩ := plainElem_bool_inv Try.underlying4 hv
  rw [h2 s hs] at hx
  simp only [Prod.mk.injEq, DataW.lit.injEq, Lit.bool.injEq] at hx
  rw [hx.1]
  exact hrun
theorem lit_text {s t : ByteArray} (h : (Lit.string s.data.toList) = .string t.data.toList) : s = t := by
  injection h with h
  exact ByteArray.ext (Array.toList_inj.1 h)
open Classical in
theorem SetM.store (h : SetM w b n M) {s : ByteArray} (hs : s.size ≤ maxLen) (hn : n < maxLen) : ∃ w', (Instr.mapUpdate 71 (.map (some b)) (.string s) (.bool true)).run Try.prog w = .ok () w' ∧ SetM w' b (n + 1) (fun t => t = s ∨ M t) ∧ w.grownBy w' (some b) := by
  obtain ⟨D, h1, h2⟩ := h
  obtain ⟨w', hr, h3, h4⟩ := h1.update strKeyed Try.underlying71 hn (keyOf_string_mk Try.underlying9 hs) (plainElem_bool Try.underlying4 true)
  refine ⟨w', hr, ⟨_, h3, fun t ht => ?_⟩, h4⟩
  by_cases e : t = s
  · subst e
    rw [atKey_put_same h1.isMap (by trivial)]
    simp
  · rw [atKey_put_other (fun h => e (lit_text h)), h2 t ht]
    simp [e]
end
/-- For an arm of the walk: a store into a map whose run is known. -/
theorem wpList_map_run {P : Program} {ops : Array Oper} {rest : List Oper} {o : Oper} {a : Act} {w w' : World} {Q : Exit → Act → World → Prop} (hgd : o.guard = none) {t : TypeId} {m x v : Operand} (ho : o.op = Op.mapUpdate t m x v) {vm vx vv : Value}
    (hr : (Instr.mapUpdate t vm vx vv).run P w = .ok () w') (hm : a.eval m = vm) (hx : a.eval x = vx) (hv : a.eval v = vv) (h : wpList P ops Q rest (a.put o.dst undef) w') : wpList P ops Q (o :: rest) a w :=
  wpList_plain hgd fun K hK => by
    unfold Oper.wp
    simp [execOp, ho, hm, hx, hv, hr, Result.andThen]
    exact hK _ _ h
end Go.Proofs.Ytmihoeholcaokaa
