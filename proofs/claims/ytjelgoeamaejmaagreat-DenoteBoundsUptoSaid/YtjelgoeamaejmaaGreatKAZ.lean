/- The nodes that a node names: the program's Named, the document's. -/
import Derived.Test.YtjelgoeamaejmaaGreatKAF
import Derived.Test.YtjelgoeamaejmaaGreatKAC
import Derived.Test.YtjelgoeamaejmaaGreatKAD
import Derived.Deep.QuietTactic
import Derived.Deep.RegionHeld3
import Derived.Laws.Cover3
import Derived.Test.YtjelgoeamaejmaaGreatKAB
import Derived.Maps.OwnSet
import Derived.Maps.Views
import Derived.Test.YtjelgoeamaejmaaGreatChecked
import Derived.Test.YtjelgoeamaejmaaGreatKAT
namespace Go.Proofs.YtjelgoeamaejmaaGreat
open Go.RowKit

theorem infoInt : (Tryz.prog.info? 3).map (fun i => (i.zero, i.size, i.bytes)) = some (some (.int .i64 0), 1, 8) := by kernel_rfl
theorem run_eql_nil (w : World) (a : Option Addr) (l c : Nat) : (binOp .eql 35 (.slice a l c) (.slice none 0 0)).run Tryz.prog w = .ok (.bool a.isNone) w := by
  simp only [binOp]
  simp [run_equal_slice_nil w 35 3 a l c Tryz.underlying35]
theorem two_below' (w : World) (a b : Obj) : Below w.heap.size w ((w.alloc a).alloc b) := (below_alloc w a).alloc (by simp) b
theorem Own.mono {w : World} {B B' : Nat} {k : IntKind} {e : TypeId} {v : Value} {zs : List Int} (h : Own w B k e v zs) (hB : B' ≤ B) : Own w B' k e v zs := by
  unfold Own at *
  exact oc_less h hB

set_option maxRecDepth 100000 in
set_option maxHeartbeats 1000000 in
theorem clone_ints (xs : List Int) (A : Option Addr) (cap n : Nat) (w : World) (hn : n ≤ w.heap.size) (hx : Rd w n .i64 A xs) (hc : xs.length ≤ cap) (hnil : A = none → cap = 0) (hm : xs.length ≤ 1099511627776) :
    Calls Tryz.prog 68 #[.slice A xs.length cap] w fun e w' => (∃ v, e = .returned v ∧ Own w' w.heap.size .i64 3 v xs) ∧ Below w.heap.size w w' := by
  cases A with
  | none =>
    obtain rfl := hnil rfl
    obtain rfl : xs = [] := List.length_eq_zero_iff.1 (by omega)
    have hq := fun w => run_eql_nil w none 0 0
    go_enter Tryz.func68, Tryz.ntmps68
    go_wp2_with fail
    go_ret
    exact ⟨⟨_, rfl, Own.nil _ _ _ _⟩, Below.refl _ _⟩
  | some a =>
    have O0 : Own (w.alloc (.cells #[] 3)) w.heap.size .i64 3 (.slice (some ⟨w.heap.size, 0, none⟩) 0 0) [] := Own.ofBlk (Blk.fresh w 3 (nums .i64 [])) (Nat.le_refl _) (Nat.zero_le _)
    obtain ⟨v', w', hR, hO, hB, -⟩ := run_append_nums (P := Tryz.prog) (t := 35) (ty := 35) (cap := cap) Tryz.underlying35 infoInt (by decide) O0 ((hx.below ((below_alloc w _).mono hn)).more (by simp; omega)) (fun h => by cases h) (by simpa using hm) (by simp)
    rw [List.nil_append] at hO
    have HR := Lib.hid hR
    have HO := Lib.hid hO
    have HB := Lib.hid ((below_alloc w _).trans (hB.mono (Nat.le_refl _)))
    clear hR hO hB O0 hx
    have hq := fun w => run_eql_nil w (some a) xs.length cap
    generalize xs.length = m at *
    go_enter Tryz.func68, Tryz.ntmps68
    go_wp2_with ((with_reducible refine is_append 35 rfl ?_); (with_reducible refine wpList_append_run rfl rfl HR.out ?_ ?_ ?_); (· rfl); (· rfl))
    go_ret
    exact ⟨⟨_, rfl, HO.out⟩, HB.out⟩

theorem take_map_snoc {α β : Type} (g : α → β) {l : List α} {k : Nat} {x : α} (h : l[k]? = some x) : (l.take (k + 1)).map g = (l.take k).map g ++ [g x] := by
  obtain ⟨hk, rfl⟩ := List.getElem?_eq_some_iff.1 h
  rw [List.take_succ_eq_append_getElem hk, List.map_append]
  rfl

set_option maxRecDepth 100000 in
set_option maxHeartbeats 2000000 in
theorem sch_Named (x : Nd) (p : Pl) (n : Nat) (w : World) (hn : n ≤ w.heap.size) (hx : NdB w n x p) (hlf : x.l.length + x.f.length ≤ 1099511627776) :
    Calls Tryz.prog 44 #[vN x p] w fun e w' => (∃ v, e = .returned v ∧ Own w' w.heap.size .i64 3 v (namedN x)) ∧ Below w.heap.size w w' := by
  obtain ⟨Av, cv, Al, cl, Af, cf⟩ := p
  have b1 := Blk.fresh w 47 (nc x ⟨Av, cv, Al, cl, Af, cf⟩)
  have S := below_alloc w (.cells (nc x ⟨Av, cv, Al, cl, Af, cf⟩) 47)
  obtain ⟨w1, hw1⟩ : ∃ w1, w.alloc (.cells (nc x ⟨Av, cv, Al, cl, Af, cf⟩) 47) = w1 := ⟨_, rfl⟩
  rw [hw1] at b1 S
  have hs1 : w1.heap.size = w.heap.size + 1 := by rw [← hw1]; simp
  have HC := Lib.hid (clone_ints x.l Al cl n w1 (Nat.le_trans hn S.size) (hx.l.below (S.mono hn)) hx.ll hx.ln (by omega))
  have HF : Hid (∀ W, Below w.heap.size w W → RdF W n Af x.f) := Lib.hid fun W hW => hx.f.keep (hW.mono hn)
  have HB := Lib.hid b1
  have HS := Lib.hid S
  unfold nc at b1 hw1
  obtain ⟨p0, p1, p2, p3, p4, p5, p6, p7, p8⟩ := nblk b1
  have HLF := Lib.hid hlf
  obtain ⟨m, hm⟩ : ∃ m, x.f.length = m := ⟨_, rfl⟩
  rw [hm] at p8 hw1
  have HM := Lib.hid hm
  have HS1 := Lib.hid hs1
  have hml : (m : Int) < 1099511627777 := by omega
  clear S b1 hx hn hlf hm hs1
  simp only [vN]
  have hm := HM.out
  rw [hm]
  clear hm
  go_enter Tryz.func44, Tryz.ntmps44
  go_wp2_with (go_at_call 68; refine HC.out.mono ?_; rintro e w2 ⟨⟨v, rfl, hO⟩, hb2⟩; obtain ⟨-, -, -, -, -, -, -, s7, s8⟩ := nblk (HB.out.on hb2); rw [HM.out] at s8; have HO := Lib.hid hO; have HB2 := Lib.hid hb2; clear hO hb2)
  clear p0 p1 p2 p3 p4 p5 p6 p7 p8 s7 s8 hw1
  go_loopw [3, 5, 12] (fun v a i wr => ∃ k : Nat, k ≤ m ∧ i = .int .i64 (k : Int) ∧ Hid (Below w1.heap.size w1 wr) ∧ Hid (Own wr w1.heap.size .i64 3 v (x.l ++ (x.f.take k).map Fl.node))) (fun _ _ i _ => m - (intOf i).toNat)
  case atStart => exact ⟨0, by omega, rfl, HB2, Lib.hid (by simpa using HO.out)⟩
  case round =>
    obtain ⟨k, hk, rfl, HBr, HOr⟩ := hrel
    by_cases hlt : k < m
    · obtain ⟨b, o, fd, rfl, -, -, X, c0, c1, c2⟩ := (HF.out wr (HS.out.trans (HBr.out.mono HS.out.size))).get (i := k) (by rw [HM.out]; exact hlt)
      have OW := (HOr.out.alloc (.cells #[.string fd.key, .int .i64 fd.node, .bool fd.opt] 53)).alloc (.cells #[.int .i64 fd.node] 3)
      have bN : Blk ((wr.alloc (.cells #[.string fd.key, .int .i64 fd.node, .bool fd.opt] 53)).alloc (.cells #[.int .i64 fd.node] 3)) (wr.heap.size + 1) 3 (nums .i64 [fd.node]) := Blk.freshAt _ _ _ _ (by simp)
      obtain ⟨v', w', hR, hO', hB', -⟩ := run_append_nums (P := Tryz.prog) (t := 35) (ty := 35) (cap := 1) Tryz.underlying35 infoInt (by decide) OW bN.rd (fun h => by cases h) (by
        have h1 := HLF.out
        have h2 := HM.out
        simp only [List.length_append, List.length_map, List.length_take, List.length_singleton]
        omega) (by have := HBr.out.size; simp; omega)
      simp only [List.length_singleton] at hR
      have HR := Lib.hid hR
      have HX := Lib.hid X
      have HO2 : Hid (Own w' w1.heap.size .i64 3 v' (x.l ++ (x.f.take (k + 1)).map Fl.node)) := Lib.hid (by rw [take_map_snoc Fl.node X, ← List.append_assoc]; exact hO')
      have HB3 : Hid (Below w1.heap.size w1 w') := Lib.hid (HBr.out.trans ((two_below' wr _ _).mono HBr.out.size |>.trans hB'))
      clear hR hO' hB' OW bN X
      go_wp2_with ((with_reducible refine is_append 35 rfl ?_); (with_reducible refine wpList_append_run rfl rfl HR.out ?_ ?_ ?_); (· rfl); (· rfl))
      go_roundw
      case rel => exact ⟨k + 1, by omega, by simp, HB3, HO2⟩
      case measure => simp [intOf]; omega
    · obtain rfl : k = m := by omega
      go_wp2_with fail
      go_ret
      refine ⟨⟨_, rfl, ?_⟩, HS.out.trans (HBr.out.mono HS.out.size)⟩
      have := HOr.out
      rw [← HM.out, List.take_length] at this
      exact this.mono (by have := HS1.out; omega)

set_option maxRecDepth 100000 in
set_option maxHeartbeats 2000000 in
theorem ref_Named (x : Nd) (p : Pl) (n : Nat) (w : World) (hn : n ≤ w.heap.size) (hx : NdB w n x p) (hlf : x.l.length + x.f.length ≤ 1099511627776) :
    Calls Tryz.prog 39 #[vN x p] w fun e w' => (∃ v, e = .returned v ∧ Own w' w.heap.size .i64 3 v (namedN x)) ∧ Below w.heap.size w w' := by
  obtain ⟨Av, cv, Al, cl, Af, cf⟩ := p
  have b1 := Blk.fresh w 47 (nc x ⟨Av, cv, Al, cl, Af, cf⟩)
  have S := below_alloc w (.cells (nc x ⟨Av, cv, Al, cl, Af, cf⟩) 47)
  obtain ⟨w1, hw1⟩ : ∃ w1, w.alloc (.cells (nc x ⟨Av, cv, Al, cl, Af, cf⟩) 47) = w1 := ⟨_, rfl⟩
  rw [hw1] at b1 S
  have hs1 : w1.heap.size = w.heap.size + 1 := by rw [← hw1]; simp
  have O0 : Own (w1.alloc (.cells #[] 3)) w1.heap.size .i64 3 (.slice (some ⟨w1.heap.size, 0, none⟩) 0 0) [] := Own.ofBlk (Blk.fresh w1 3 (nums .i64 [])) (Nat.le_refl _) (Nat.zero_le _)
  have hl : Rd w1 n .i64 Al x.l := hx.l.below (S.mono hn)
  obtain ⟨v0, w2, hR, hO, hB, -⟩ := run_append_nums (P := Tryz.prog) (t := 35) (ty := 35) (cap := cl) Tryz.underlying35 infoInt (by decide) O0 ((hl.below ((below_alloc w1 _).mono (Nat.le_trans hn S.size))).more (by have := S.size; simp; omega)) hx.ln (by simp; omega) (by simp)
  rw [List.nil_append] at hO
  rw [hs1] at hR
  have HR0 := Lib.hid hR
  have HO := Lib.hid hO
  have HB2 := Lib.hid ((below_alloc w1 _).trans hB)
  have HF : Hid (∀ W, Below w.heap.size w W → RdF W n Af x.f) := Lib.hid fun W hW => hx.f.keep (hW.mono hn)
  have HB := Lib.hid b1
  have HS := Lib.hid S
  unfold nc at b1 hw1
  obtain ⟨p0, p1, p2, p3, p4, p5, p6, p7, p8⟩ := nblk b1
  have HLF := Lib.hid hlf
  obtain ⟨m, hm⟩ : ∃ m, x.f.length = m := ⟨_, rfl⟩
  have HM := Lib.hid hm
  have HS1 := Lib.hid hs1
  have hml : (m : Int) < 1099511627777 := by omega
  clear S b1 hx hn hlf hl hR hO hB O0 p8
  simp only [vN]
  rw [hm] at hw1 ⊢
  clear hm
  go_enter Tryz.func39, Tryz.ntmps39
  go_wp2_with ((with_reducible refine is_append 35 rfl ?_); (with_reducible refine wpList_append_run rfl rfl HR0.out ?_ ?_ ?_); (· rfl); (· rfl))
  clear p0 p1 p2 p3 p4 p5 p6 p7 hw1 hs1
  go_loopw [3, 4] (fun v i wr => ∃ k : Nat, k ≤ m ∧ i = .int .i64 (k : Int) ∧ Hid (Below w1.heap.size w1 wr) ∧ Hid (Own wr w1.heap.size .i64 3 v (x.l ++ (x.f.take k).map Fl.node))) (fun _ i _ => m - (intOf i).toNat)
  case atStart => exact ⟨0, by omega, rfl, HB2, Lib.hid (by simpa using HO.out)⟩
  case round =>
    obtain ⟨k, hk, rfl, HBr, HOr⟩ := hrel
    obtain ⟨-, -, -, -, -, -, -, -, s8⟩ := nblk (HB.out.on HBr.out)
    rw [HM.out] at s8
    by_cases hlt : k < m
    · obtain ⟨b, o, fd, rfl, -, -, X, c0, c1, c2⟩ := (HF.out wr (HS.out.trans (HBr.out.mono HS.out.size))).get (i := k) (by rw [HM.out]; exact hlt)
      have OW := (HOr.out.alloc (.cells #[.int .i64 fd.node] 3))
      have bN : Blk (wr.alloc (.cells #[.int .i64 fd.node] 3)) (wr.heap.size) 3 (nums .i64 [fd.node]) := Blk.fresh _ _ _
      obtain ⟨v', w', hR, hO', hB', -⟩ := run_append_nums (P := Tryz.prog) (t := 35) (ty := 35) (cap := 1) Tryz.underlying35 infoInt (by decide) OW bN.rd (fun h => by cases h) (by
        have h1 := HLF.out
        have h2 := HM.out
        simp only [List.length_append, List.length_map, List.length_take, List.length_singleton]
        omega) (by have := HBr.out.size; simp; omega)
      simp only [List.length_singleton] at hR
      have HR := Lib.hid hR
      have HX := Lib.hid X
      have HO2 : Hid (Own w' w1.heap.size .i64 3 v' (x.l ++ (x.f.take (k + 1)).map Fl.node)) := Lib.hid (by rw [take_map_snoc Fl.node X, ← List.append_assoc]; exact hO')
      have HB3 : Hid (Below w1.heap.size w1 w') := Lib.hid (HBr.out.trans ((below_alloc wr _).mono HBr.out.size |>.trans hB'))
      clear hR hO' hB' OW bN X c0 c2
      go_wp2_with ((with_reducible refine is_append 35 rfl ?_); (with_reducible refine wpList_append_run rfl rfl HR.out ?_ ?_ ?_); (· rfl); (· rfl))
      go_roundw
      case rel => exact ⟨k + 1, by omega, by simp, HB3, HO2⟩
      case measure => simp [intOf]; omega
    · obtain rfl : k = m := by omega
      go_wp2_with fail
      go_ret
      refine ⟨⟨_, rfl, ?_⟩, HS.out.trans (HBr.out.mono HS.out.size)⟩
      have := HOr.out
      rw [← HM.out, List.take_length] at this
      exact this.mono (by have := HS1.out; omega)
end Go.Proofs.YtjelgoeamaejmaaGreat

/- A set of texts that a call made itself: map[string]bool, asked and stored into. -/
namespace Go.Proofs.YtjelgoeamaejmaaGreat
open Go.RowKit Go.Maps Go.WideMaps

open Classical in
/-- Block b is a map of at most n texts: true of those of M, and of no others. -/
def SetM (w : World) (b n : Nat) (M : ByteArray → Prop) : Prop :=
  ∃ D : DataW Unit, w.ownsMap Tryz.prog 9 (plainElem Tryz.prog 4) b n D ∧ ∀ s : ByteArray, s.size ≤ maxLen → D.atKey (.string s.data.toList) (.lit (.bool false)) = .lit (.bool (decide (M s)))
theorem strKeyed : Keyed Tryz.prog 9 := string_keyed Tryz.underlying9
theorem zeroBool (w : World) : (zeroValue 4).run Tryz.prog w = .ok (.bool false) w := by kernel_rfl
theorem plainElem_bool_inv {H : Type} {P : Program} {e : TypeId} (he : P.underlying e = some .bool) {v : Value} {z : DataW H × List MemPlace} (h : plainElem P e v = some z) : ∃ x, v = .bool x ∧ z = (.lit (.bool x), []) := by
  unfold plainElem at h
  rw [he] at h
  cases v <;> simp at h
  exact ⟨_, rfl, h.symm⟩
section
variable {w w' : World} {b n : Nat} {M : ByteArray → Prop}
theorem SetM.made (w : World) : SetM (w.alloc (.map #[] 0)) w.heap.size 0 fun _ => False :=
  ⟨.map [], World.ownsMap_made _ _ _ _, fun s _ => by simp [DataW.atKey]⟩
theorem SetM.lt (h : SetM w b n M) : b < w.heap.size := by obtain ⟨D, h, _⟩ := h; exact h.lt
theorem SetM.kept {row : Option Nat} (h : SetM w b n M) (hg : w.grownBy w' row) (hne : some b ≠ row) : SetM w' b n M := by
  obtain ⟨D, h1, h2⟩ := h
  exact ⟨D, h1.kept hg hne, h2⟩
theorem SetM.on (h : SetM w b n M) (hb : Below w.heap.size w w') : SetM w' b n M := h.kept (Only.ofBelow (g := b + 1) hb) (by simp)
theorem SetM.congr {M' : ByteArray → Prop} (h : SetM w b n M) (hM : ∀ s, M s ↔ M' s) : SetM w b n M' := by
  obtain rfl : M = M' := funext fun s => propext (hM s)
  exact h
theorem SetM.mono {n' : Nat} (h : SetM w b n M) (hn : n ≤ n') : SetM w b n' M := by
  obtain ⟨D, h1, h2⟩ := h
  exact ⟨D, h1.mono hn, h2⟩
open Classical in
theorem SetM.look (h : SetM w b n M) {s : ByteArray} (hs : s.size ≤ maxLen) : (Instr.lookup 96 (.map (some b)) (.string s) false).run Tryz.prog w = .ok (.bool (decide (M s))) w := by
  obtain ⟨D, h1, h2⟩ := h
  obtain ⟨v, ps, hrun, hv⟩ := h1.lookup strKeyed Tryz.underlying96 (zeroBool w) (plainElem_bool Tryz.underlying4 false) (keyOf_string_mk Tryz.underlying9 hs)
  obtain ⟨x, rfl, hx⟩ := plainElem_bool_inv Tryz.underlying4 hv
  rw [h2 s hs] at hx
  simp only [Prod.mk.injEq, DataW.lit.injEq, Lit.bool.injEq] at hx
  rw [hx.1]
  exact hrun
theorem lit_text {s t : ByteArray} (h : (Lit.string s.data.toList) = .string t.data.toList) : s = t := by
  injection h with h
  exact ByteArray.ext (Array.toList_inj.1 h)
open Classical in
theorem SetM.store (h : SetM w b n M) {s : ByteArray} (hs : s.size ≤ maxLen) (hn : n < maxLen) : ∃ w', (Instr.mapUpdate 96 (.map (some b)) (.string s) (.bool true)).run Tryz.prog w = .ok () w' ∧ SetM w' b (n + 1) (fun t => t = s ∨ M t) ∧ w.grownBy w' (some b) := by
  obtain ⟨D, h1, h2⟩ := h
  obtain ⟨w', hr, h3, h4⟩ := h1.update strKeyed Tryz.underlying96 hn (keyOf_string_mk Tryz.underlying9 hs) (plainElem_bool Tryz.underlying4 true)
  refine ⟨w', hr, ⟨_, h3, fun t ht => ?_⟩, h4⟩
  by_cases e : t = s
  · subst e
    rw [atKey_put_same h1.isMap (by trivial)]
    simp
  · rw [atKey_put_other (fun h => e (lit_text h)), h2 t ht]
    simp [e]
end
/-- For an arm of the walk: a store into a map whose run is known. -/
theorem wpList_map_run {P : Program} {ops : Array Oper} {rest : List Oper} {o : Oper} {a : Act} {w w' : World} {Q : Exit → Act → World → Prop} (hgd : o.guard = none) {t : TypeId} {m x v : Operand} (ho : o.op = Op.mapUpdate t m x v) {vm vx vv : Value}
    (hr : (Instr.mapUpdate t vm vx vv).run P w = .ok () w') (hm : a.eval m = vm) (hx : a.eval x = vx) (hv : a.eval v = vv) (h : wpList P ops Q rest (a.put o.dst undef) w') : wpList P ops Q (o :: rest) a w :=
  wpList_plain hgd fun K hK => by
    unfold Oper.wp
    simp [execOp, ho, hm, hx, hv, hr, Result.andThen]
    exact hK _ _ h
end Go.Proofs.YtjelgoeamaejmaaGreat

/- Package schema: checkKeys. -/
namespace Go.Proofs.YtjelgoeamaejmaaGreat
open Go.RowKit

theorem keyE_ok {fs : List Fl} {k : Nat} {x : Fl} (h : fs[k]? = some x) (h1 : uok uq0 (sbytes x.key) = true) (h2 : ¬ 1021 < x.key.size) (h3 : x.key ∉ (fs.take k).map Fl.key) : keyE fs k = 0 := by
  rw [keyE_some h, if_neg (by simp [h1]), if_neg h2, if_neg h3]
theorem keys_utf {fs : List Fl} {k : Nat} {x : Fl} (h : fs[k]? = some x) (h0 : ∀ j, j < k → keyE fs j = 0) (h1 : uok uq0 (sbytes x.key) = false) : keysN fs = 6 := by
  have e : keyE fs k = 6 := by rw [keyE_some h, if_pos h1]
  have hk := (List.getElem?_eq_some_iff.1 h).1
  rw [keysN, firstE_at hk h0 (by rw [e]; decide), e]
theorem keys_len {fs : List Fl} {k : Nat} {x : Fl} (h : fs[k]? = some x) (h0 : ∀ j, j < k → keyE fs j = 0) (h1 : uok uq0 (sbytes x.key) = true) (h2 : 1021 < x.key.size) : keysN fs = 4 := by
  have e : keyE fs k = 4 := by rw [keyE_some h, if_neg (by simp [h1]), if_pos h2]
  have hk := (List.getElem?_eq_some_iff.1 h).1
  rw [keysN, firstE_at hk h0 (by rw [e]; decide), e]
theorem keys_twice {fs : List Fl} {k : Nat} {x : Fl} (h : fs[k]? = some x) (h0 : ∀ j, j < k → keyE fs j = 0) (h1 : uok uq0 (sbytes x.key) = true) (h2 : ¬ 1021 < x.key.size) (h3 : x.key ∈ (fs.take k).map Fl.key) : keysN fs = 14 := by
  have e : keyE fs k = 14 := by rw [keyE_some h, if_neg (by simp [h1]), if_neg h2, if_pos h3]
  have hk := (List.getElem?_eq_some_iff.1 h).1
  rw [keysN, firstE_at hk h0 (by rw [e]; decide), e]
/-- Keys are as long as a text can be. -/
def okF (N : Nat) (fs : List Fl) : Prop := ∀ x ∈ fs, x.key.size ≤ N

open Classical in
set_option maxRecDepth 100000 in
set_option maxHeartbeats 2000000 in
theorem sch_checkKeys (fs : List Fl) (A : Option Addr) (cap n : Nat) (w : World) (hn : n ≤ w.heap.size) (hx : RdF w n A fs) (hok : okF 1048576 fs) (hm : fs.length ≤ 1099511627776) :
    Calls Tryz.prog 43 #[.slice A fs.length cap] w fun e w' => e = .returned (.int .i64 (keysN fs)) ∧ Below w.heap.size w w' := by
  have hmm := @run_makeMap Tryz.prog
  have HF : Hid (∀ W, Below w.heap.size w W → RdF W n A fs) := Lib.hid fun W hW => hx.keep (hW.mono hn)
  have HOK := Lib.hid hok
  obtain ⟨m, hml⟩ : ∃ m, fs.length = m := ⟨_, rfl⟩
  rw [hml] at hm ⊢
  have HM := Lib.hid hml
  clear hx hn hok hml
  go_enter Tryz.func43, Tryz.ntmps43
  go_wp2_with fail
  go_loopw [9] (fun i wr => ∃ k : Nat, k ≤ m ∧ i = .int .i64 (k : Int) ∧ Hid (Below w.heap.size w wr) ∧ Hid (SetM wr w.heap.size k (fun s => s ∈ (fs.take k).map Fl.key)) ∧ Hid (∀ j, j < k → keyE fs j = 0)) (fun i _ => m - (intOf i).toNat)
  case atStart => exact ⟨0, by omega, rfl, Lib.hid (below_alloc w _), Lib.hid ((SetM.made w).congr (by simp)), Lib.hid fun j hj => absurd hj (by omega)⟩
  case round =>
    obtain ⟨k, hk, rfl, HB, HS, HE⟩ := hrel
    by_cases hlt : k < m
    · obtain ⟨b, o, fd, rfl, -, -, X, c0, c1, c2⟩ := (HF.out wr HB.out).get (i := k) (by rw [HM.out]; exact hlt)
      have hsz := HOK.out fd (List.mem_of_getElem? X)
      have HSZ : Hid (fd.key.size ≤ maxLen) := Lib.hid (Nat.le_trans hsz (by decide))
      have HU := Lib.hid (fun W => utf_valid fd.key (Nat.le_trans hsz (by decide)) W)
      have HS1 := Lib.hid (HS.out.on (below_alloc wr (.cells #[.string fd.key, .int .i64 fd.node, .bool fd.opt] 53)))
      have HA := Lib.hid (HB.out.trans ((below_alloc wr (.cells #[.string fd.key, .int .i64 fd.node, .bool fd.opt] 53)).mono HB.out.size))
      have HBK : Hid (∀ W, Below (wr.alloc (.cells #[.string fd.key, .int .i64 fd.node, .bool fd.opt] 53)).heap.size (wr.alloc (.cells #[.string fd.key, .int .i64 fd.node, .bool fd.opt] 53)) W → W.cell? ⟨wr.heap.size, 0, none⟩ = some (.string fd.key) ∧ W.cell? ⟨wr.heap.size, 1, none⟩ = some (.int .i64 fd.node) ∧ W.cell? ⟨wr.heap.size, 2, none⟩ = some (.bool fd.opt)) := Lib.hid fun W hb => by
        have hb0 := (Blk.fresh wr 53 #[.string fd.key, .int .i64 fd.node, .bool fd.opt]).on hb
        exact ⟨by rw [hb0.cell]; rfl, by rw [hb0.cell]; rfl, by rw [hb0.cell]; rfl⟩
      have HKM : Hid (k < maxLen) := Lib.hid (by unfold maxLen; omega)
      have HX := Lib.hid X
      have HSK := Lib.hid (And.intro HS.out.lt hlt)
      clear X hsz HS
      have WAYS : (uok uq0 (sbytes fd.key) = false) ∨ (uok uq0 (sbytes fd.key) = true ∧ 1021 < fd.key.size) ∨ (uok uq0 (sbytes fd.key) = true ∧ ¬ 1021 < fd.key.size ∧ fd.key ∈ (fs.take k).map Fl.key) ∨ (uok uq0 (sbytes fd.key) = true ∧ ¬ 1021 < fd.key.size ∧ fd.key ∉ (fs.take k).map Fl.key) := by
        by_cases h1 : uok uq0 (sbytes fd.key) = true
        · by_cases h2 : 1021 < fd.key.size
          · exact .inr (.inl ⟨h1, h2⟩)
          · by_cases h3 : fd.key ∈ (fs.take k).map Fl.key
            · exact .inr (.inr (.inl ⟨h1, h2, h3⟩))
            · exact .inr (.inr (.inr ⟨h1, h2, h3⟩))
        · exact .inl (by simpa using h1)
      rcases WAYS with h1 | ⟨h1, h2⟩ | ⟨h1, h2, h3⟩ | ⟨h1, h2, h3⟩
      · have HR : Hid (keysN fs = 6) := Lib.hid (keys_utf HX.out HE.out h1)
        rw [h1] at HU
        clear h1
        go_wp2_with (first
          | (go_at_call 48; refine (HU.out _).mono ?_; rintro e w3 ⟨rfl, hb3⟩; have HB3 := Lib.hid (HA.out.trans (hb3.mono HA.out.size)); clear hb3)
          | fail)
        go_ret
        exact ⟨by rw [HR.out]; rfl, HB3.out⟩
      · have HR : Hid (keysN fs = 4) := Lib.hid (keys_len HX.out HE.out h1 h2)
        rw [h1] at HU
        have hz : (1021 : Int) < (fd.key.size : Int) := by omega
        clear h1 h2
        go_wp2_with (first
          | (go_at_call 48; refine (HU.out _).mono ?_; rintro e w3 ⟨rfl, hb3⟩; obtain ⟨d0, d1, d2⟩ := HBK.out w3 hb3; have HB3 := Lib.hid (HA.out.trans (hb3.mono HA.out.size)); clear hb3)
          | fail)
        go_ret
        exact ⟨by rw [HR.out]; rfl, HB3.out⟩
      · have HR : Hid (keysN fs = 14) := Lib.hid (keys_twice HX.out HE.out h1 h2 h3)
        have HMEM : Hid (decide (fd.key ∈ (fs.take k).map Fl.key) = true) := Lib.hid (decide_eq_true h3)
        rw [h1] at HU
        have hz : (fd.key.size : Int) ≤ 1021 := by omega
        clear h1 h2 h3
        go_wp2_with (first
          | (go_at_call 48; refine (HU.out _).mono ?_; rintro e w3 ⟨rfl, hb3⟩; obtain ⟨d0, d1, d2⟩ := HBK.out w3 hb3; have HB3 := Lib.hid (HA.out.trans (hb3.mono HA.out.size)); have HS3 := Lib.hid (HS1.out.on hb3); have hlook := HS3.out.look HSZ.out; simp only [HMEM.out] at hlook; clear hb3)
          | (at_mapUpdate; obtain ⟨w4, hR4, hS4, hG4⟩ := HS3.out.store HSZ.out HKM.out; have HR4 := Lib.hid hR4; have HS4 := Lib.hid hS4; have HG4 := Lib.hid hG4; clear hR4 hS4 hG4; (with_reducible refine wpList_map_run rfl rfl HR4.out ?_ ?_ ?_ ?_); (· rfl); (· rfl); (· rfl))
          | fail)
        go_ret
        exact ⟨by rw [HR.out]; rfl, HB3.out⟩
      · have HN : Hid (keyE fs k = 0) := Lib.hid (keyE_ok HX.out h1 h2 h3)
        have HMEM : Hid (decide (fd.key ∈ (fs.take k).map Fl.key) = false) := Lib.hid (decide_eq_false h3)
        rw [h1] at HU
        have hz : (fd.key.size : Int) ≤ 1021 := by omega
        clear h1 h2 h3
        go_wp2_with (first
          | (go_at_call 48; refine (HU.out _).mono ?_; rintro e w3 ⟨rfl, hb3⟩; obtain ⟨d0, d1, d2⟩ := HBK.out w3 hb3; have HB3 := Lib.hid (HA.out.trans (hb3.mono HA.out.size)); have HS3 := Lib.hid (HS1.out.on hb3); have hlook := HS3.out.look HSZ.out; simp only [HMEM.out] at hlook; clear hb3)
          | (at_mapUpdate; obtain ⟨w4, hR4, hS4, hG4⟩ := HS3.out.store HSZ.out HKM.out; have HR4 := Lib.hid hR4; have HS4 := Lib.hid hS4; have HG4 := Lib.hid hG4; clear hR4 hS4 hG4; (with_reducible refine wpList_map_run rfl rfl HR4.out ?_ ?_ ?_ ?_); (· rfl); (· rfl); (· rfl))
          | fail)
        go_roundw
        case rel => exact ⟨k + 1, by omega, by simp, Lib.hid (HB3.out.grown HG4.out HB3.out.size (fun j hj => by cases hj; exact Nat.le_refl _)), Lib.hid (HS4.out.congr fun s => by rw [take_map_snoc Fl.key HX.out, List.mem_append, List.mem_singleton]; exact Or.comm), Lib.hid fun j hj => by
          by_cases e : j = k
          · rw [e]; exact HN.out
          · exact HE.out j (by omega)⟩
        case measure => simp [intOf]; omega
    · obtain rfl : k = m := by omega
      have HR : Hid (keysN fs = 0) := Lib.hid (by rw [keysN, HM.out]; exact firstE_all HE.out)
      go_wp2_with fail
      go_ret
      exact ⟨by rw [HR.out]; rfl, HB.out⟩
end Go.Proofs.YtjelgoeamaejmaaGreat
