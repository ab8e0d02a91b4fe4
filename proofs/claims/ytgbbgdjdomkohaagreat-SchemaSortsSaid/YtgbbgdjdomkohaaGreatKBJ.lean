/- The nodes that a node names: the program's Named, the document's. -/
import Derived.Test.YtgbbgdjdomkohaaGreatKBG
import Derived.Test.YtgbbgdjdomkohaaGreatKAJ
import Derived.Test.YtgbbgdjdomkohaaGreatKAK
import Derived.Deep.QuietTactic
import Derived.Deep.RegionHeld3
import Derived.Laws.Cover3
import Derived.Test.YtgbbgdjdomkohaaGreatKAB
import Derived.Maps.OwnSet
import Derived.Maps.Views
import Derived.Test.YtgbbgdjdomkohaaGreatChecked
import Derived.Test.YtgbbgdjdomkohaaGreatKAV
import Derived.Test.YtgbbgdjdomkohaaGreatKBI
namespace Go.Proofs.YtgbbgdjdomkohaaGreat
open Go.RowKit

theorem infoInt : (Tryz.prog.info? 3).map (fun i => (i.zero, i.size, i.bytes)) = some (some (.int .i64 0), 1, 8) := by kernel_rfl
theorem run_eql_nil (w : World) (a : Option Addr) (l c : Nat) : (binOp .eql 32 (.slice a l c) (.slice none 0 0)).run Tryz.prog w = .ok (.bool a.isNone) w := by
  simp only [binOp]
  simp [run_equal_slice_nil w 32 3 a l c Tryz.underlying32]
theorem two_below' (w : World) (a b : Obj) : Below w.heap.size w ((w.alloc a).alloc b) := (below_alloc w a).alloc (by simp) b
theorem Own.mono {w : World} {B B' : Nat} {k : IntKind} {e : TypeId} {v : Value} {zs : List Int} (h : Own w B k e v zs) (hB : B' ≤ B) : Own w B' k e v zs := by
  unfold Own at *
  exact oc_less h hB

set_option maxRecDepth 100000 in
set_option maxHeartbeats 1000000 in
theorem clone_ints (xs : List Int) (A : Option Addr) (cap n : Nat) (w : World) (hn : n ≤ w.heap.size) (hx : Rd w n .i64 A xs) (hc : xs.length ≤ cap) (hnil : A = none → cap = 0) (hm : xs.length ≤ 1099511627776) :
    Calls Tryz.prog 35 #[.slice A xs.length cap] w fun e w' => (∃ v, e = .returned v ∧ Own w' w.heap.size .i64 3 v xs) ∧ Below w.heap.size w w' := by
  cases A with
  | none =>
    obtain rfl := hnil rfl
    obtain rfl : xs = [] := List.length_eq_zero_iff.1 (by omega)
    have hq := fun w => run_eql_nil w none 0 0
    go_enter Tryz.func35, Tryz.ntmps35
    go_wp2_with fail
    go_ret
    exact ⟨⟨_, rfl, Own.nil _ _ _ _⟩, Below.refl _ _⟩
  | some a =>
    have O0 : Own (w.alloc (.cells #[] 3)) w.heap.size .i64 3 (.slice (some ⟨w.heap.size, 0, none⟩) 0 0) [] := Own.ofBlk (Blk.fresh w 3 (nums .i64 [])) (Nat.le_refl _) (Nat.zero_le _)
    obtain ⟨v', w', hR, hO, hB, -⟩ := run_append_nums (P := Tryz.prog) (t := 32) (ty := 32) (cap := cap) Tryz.underlying32 infoInt (by decide) O0 ((hx.below ((below_alloc w _).mono hn)).more (by simp; omega)) (fun h => by cases h) (by simpa using hm) (by simp)
    rw [List.nil_append] at hO
    have HR := Lib.hid hR
    have HO := Lib.hid hO
    have HB := Lib.hid ((below_alloc w _).trans (hB.mono (Nat.le_refl _)))
    clear hR hO hB O0 hx
    have hq := fun w => run_eql_nil w (some a) xs.length cap
    generalize xs.length = m at *
    go_enter Tryz.func35, Tryz.ntmps35
    go_wp2_with ((with_reducible refine is_append 32 rfl ?_); (with_reducible refine wpList_append_run rfl rfl HR.out ?_ ?_ ?_); (· rfl); (· rfl))
    go_ret
    exact ⟨⟨_, rfl, HO.out⟩, HB.out⟩

theorem take_map_snoc {α β : Type} (g : α → β) {l : List α} {k : Nat} {x : α} (h : l[k]? = some x) : (l.take (k + 1)).map g = (l.take k).map g ++ [g x] := by
  obtain ⟨hk, rfl⟩ := List.getElem?_eq_some_iff.1 h
  rw [List.take_succ_eq_append_getElem hk, List.map_append]
  rfl

set_option maxRecDepth 100000 in
set_option maxHeartbeats 2000000 in
theorem sch_Named (x : Nd) (p : Pl) (n : Nat) (w : World) (hn : n ≤ w.heap.size) (hx : NdB w n x p) (hlf : x.l.length + x.f.length ≤ 1099511627776) :
    Calls Tryz.prog 25 #[vN x p] w fun e w' => (∃ v, e = .returned v ∧ Own w' w.heap.size .i64 3 v (namedN x)) ∧ Below w.heap.size w w' := by
  obtain ⟨Av, cv, Al, cl, Af, cf⟩ := p
  have b1 := Blk.fresh w 34 (nc x ⟨Av, cv, Al, cl, Af, cf⟩)
  have S := below_alloc w (.cells (nc x ⟨Av, cv, Al, cl, Af, cf⟩) 34)
  obtain ⟨w1, hw1⟩ : ∃ w1, w.alloc (.cells (nc x ⟨Av, cv, Al, cl, Af, cf⟩) 34) = w1 := ⟨_, rfl⟩
  rw [hw1] at b1 S
  have hs1 : w1.heap.size = w.heap.size + 1 := by rw [← hw1]; simp
  have HC := Lib.hid (clone_ints x.l Al cl n w1 (Nat.le_trans hn S.size) (hx.l.below (S.mono hn)) hx.ll hx.ln (by omega))
  have HF : Hid (∀ W, Below w.heap.size w W → RdF W n Af x.f) := Lib.hid fun W hW => hx.f.keep (hW.mono hn)
  have HB := Lib.hid b1
  have HS := Lib.hid S
  unfold nc at b1 hw1
  obtain ⟨p0, p1, p2, p3, p4, p5, p6, p7, p8⟩ := nblk b1
  have HLF := Lib.hid hlf
  obtain ⟨m, hm⟩ : ∃ m, x.f.length = m := ⟨_, rfl⟩
  rw [hm] at p8 hw1
  have HM := Lib.hid hm
  have HS1 := Lib.hid hs1
  have hml : (m : Int) < 1099511627777 := by omega
  clear S b1 hx hn hlf hm hs1
  simp only [vN]
  have hm := HM.out
  rw [hm]
  clear hm
  go_enter Tryz.func25, Tryz.ntmps25
  go_wp2_with (go_at_call 35; refine HC.out.mono ?_; rintro e w2 ⟨⟨v, rfl, hO⟩, hb2⟩; obtain ⟨-, -, -, -, -, -, -, s7, s8⟩ := nblk (HB.out.on hb2); rw [HM.out] at s8; have HO := Lib.hid hO; have HB2 := Lib.hid hb2; clear hO hb2)
  clear p0 p1 p2 p3 p4 p5 p6 p7 p8 s7 s8 hw1
  go_loopw [3, 5, 12] (fun v a i wr => ∃ k : Nat, k ≤ m ∧ i = .int .i64 (k : Int) ∧ Hid (Below w1.heap.size w1 wr) ∧ Hid (Own wr w1.heap.size .i64 3 v (x.l ++ (x.f.take k).map Fl.node))) (fun _ _ i _ => m - (intOf i).toNat)
  case atStart => exact ⟨0, by omega, rfl, HB2, Lib.hid (by simpa using HO.out)⟩
  case round =>
    obtain ⟨k, hk, rfl, HBr, HOr⟩ := hrel
    by_cases hlt : k < m
    · obtain ⟨b, o, fd, rfl, -, -, X, c0, c1, c2⟩ := (HF.out wr (HS.out.trans (HBr.out.mono HS.out.size))).get (i := k) (by rw [HM.out]; exact hlt)
      have OW := (HOr.out.alloc (.cells #[.string fd.key, .int .i64 fd.node, .bool fd.opt] 27)).alloc (.cells #[.int .i64 fd.node] 3)
      have bN : Blk ((wr.alloc (.cells #[.string fd.key, .int .i64 fd.node, .bool fd.opt] 27)).alloc (.cells #[.int .i64 fd.node] 3)) (wr.heap.size + 1) 3 (nums .i64 [fd.node]) := Blk.freshAt _ _ _ _ (by simp)
      obtain ⟨v', w', hR, hO', hB', -⟩ := run_append_nums (P := Tryz.prog) (t := 32) (ty := 32) (cap := 1) Tryz.underlying32 infoInt (by decide) OW bN.rd (fun h => by cases h) (by
        have h1 := HLF.out
        have h2 := HM.out
        simp only [List.length_append, List.length_map, List.length_take, List.length_singleton]
        omega) (by have := HBr.out.size; simp; omega)
      simp only [List.length_singleton] at hR
      have HR := Lib.hid hR
      have HX := Lib.hid X
      have HO2 : Hid (Own w' w1.heap.size .i64 3 v' (x.l ++ (x.f.take (k + 1)).map Fl.node)) := Lib.hid (by rw [take_map_snoc Fl.node X, ← List.append_assoc]; exact hO')
      have HB3 : Hid (Below w1.heap.size w1 w') := Lib.hid (HBr.out.trans ((two_below' wr _ _).mono HBr.out.size |>.trans hB'))
      clear hR hO' hB' OW bN X
      go_wp2_with ((with_reducible refine is_append 32 rfl ?_); (with_reducible refine wpList_append_run rfl rfl HR.out ?_ ?_ ?_); (· rfl); (· rfl))
      go_roundw
      case rel => exact ⟨k + 1, by omega, by simp, HB3, HO2⟩
      case measure => simp [intOf]; omega
    · obtain rfl : k = m := by omega
      go_wp2_with fail
      go_ret
      refine ⟨⟨_, rfl, ?_⟩, HS.out.trans (HBr.out.mono HS.out.size)⟩
      have := HOr.out
      rw [← HM.out, List.take_length] at this
      exact this.mono (by have := HS1.out; omega)

end Go.Proofs.YtgbbgdjdomkohaaGreat

/- A set of texts that a call made itself: map[string]bool, asked and stored into. -/
namespace Go.Proofs.YtgbbgdjdomkohaaGreat
open Go.RowKit Go.Maps Go.WideMaps

open Classical in
/-- Block b is a map of at most n texts: true of those of M, and of no others. -/
def SetM (w : World) (b n : Nat) (M : ByteArray → Prop) : Prop :=
  ∃ D : DataW Unit, w.ownsMap Tryz.prog 9 (plainElem Tryz.prog 4) b n D ∧ ∀ s : ByteArray, s.size ≤ maxLen → D.atKey (.string s.data.toList) (.lit (.bool false)) = .lit (.bool (decide (M s)))
theorem strKeyed : Keyed Tryz.prog 9 := string_keyed Tryz.underlying9
theorem zeroBool (w : World) : (zeroValue 4).run Tryz.prog w = .ok (.bool false) w := by kernel_rfl
theorem plainElem_bool_inv {H : Type} {P : Program} {e : TypeId} (he : P.underlying e = some .bool) {v : Value} {z : DataW H × List MemPlace} (h : plainElem P e v = some z) : ∃ x, v = .bool x ∧ z = (.lit (.bool x), []) := by
  unfold plainElem at h
  rw [he] at h
  cases v <;> simp at h
  exact ⟨_, rfl, h.symm⟩
section
variable {w w' : World} {b n : Nat} {M : ByteArray → Prop}
theorem SetM.made (w : World) : SetM (w.alloc (.map #[] 0)) w.heap.size 0 fun _ => False :=
  ⟨.map [], World.ownsMap_made _ _ _ _, fun s _ => by simp [DataW.atKey]⟩
theorem SetM.lt (h : SetM w b n M) : b < w.heap.size := by obtain ⟨D, h, _⟩ := h; exact h.lt
theorem SetM.kept {row : Option Nat} (h : SetM w b n M) (hg : w.grownBy w' row) (hne : some b ≠ row) : SetM w' b n M := by
  obtain ⟨D, h1, h2⟩ := h
  exact ⟨D, h1.kept hg hne, h2⟩
theorem SetM.on (h : SetM w b n M) (hb : Below w.heap.size w w') : SetM w' b n M := h.kept (Only.ofBelow (g := b + 1) hb) (by simp)
theorem SetM.congr {M' : ByteArray → Prop} (h : SetM w b n M) (hM : ∀ s, M s ↔ M' s) : SetM w b n M' := by
  obtain rfl : M = M' := funext fun s => propext (hM s)
  exact h
theorem SetM.mono {n' : Nat} (h : SetM w b n M) (hn : n ≤ n') : SetM w b n' M := by
  obtain ⟨D, h1, h2⟩ := h
  exact ⟨D, h1.mono hn, h2⟩
open Classical in
theorem SetM.look (h : SetM w b n M) {s : ByteArray} (hs : s.size ≤ maxLen) : (Instr.lookup 72 (.map (some b)) (.string s) false).run Tryz.prog w = .ok (.bool (decide (M s))) w := by
  obtain ⟨D, h1, h2⟩ := h
  obtain ⟨v, ps, hrun, hv⟩ := h1.lookup strKeyed Tryz.underlying72 (zeroBool w) (plainElem_bool Tryz.underlying4 false) (keyOf_string_mk Tryz.underlying9 hs)
  obtain ⟨x, rfl, hx⟩ := plainElem_bool_inv Tryz.underlying4 hv
  rw [h2 s hs] at hx
  simp only [Prod.mk.injEq, DataW.lit.injEq, Lit.bool.injEq] at hx
  rw [hx.1]
  exact hrun
theorem lit_text {s t : ByteArray} (h : (Lit.string s.data.toList) = .string t.data.toList) : s = t := by
  injection h with h
  exact ByteArray.ext (Array.toList_inj.1 h)
open Classical in
theorem SetM.store (h : SetM w b n M) {s : ByteArray} (hs : s.size ≤ maxLen) (hn : n < maxLen) : ∃ w', (Instr.mapUpdate 72 (.map (some b)) (.string s) (.bool true)).run Tryz.prog w = .ok () w' ∧ SetM w' b (n + 1) (fun t => t = s ∨ M t) ∧ w.grownBy w' (some b) := by
  obtain ⟨D, h1, h2⟩ := h
  obtain ⟨w', hr, h3, h4⟩ := h1.update strKeyed Tryz.underlying72 hn (keyOf_string_mk Tryz.underlying9 hs) (plainElem_bool Tryz.underlying4 true)
  refine ⟨w', hr, ⟨_, h3, fun t ht => ?_⟩, h4⟩
  by_cases e : t = s
  · subst e
    rw [atKey_put_same h1.isMap (by trivial)]
    simp
  · rw [atKey_put_other (fun h => e (lit_text h)), h2 t ht]
    simp [e]
end
/-- For an arm of the walk: a store into a map whose run is known. -/
theorem wpList_map_run {P : Program} {ops : Array Oper} {rest : List Oper} {o : Oper} {a : Act} {w w' : World} {Q : Exit → Act → World → Prop} (hgd : o.guard = none) {t : TypeId} {m x v : Operand} (ho : o.op = Op.mapUpdate t m x v) {vm vx vv : Value}
    (hr : (Instr.mapUpdate t vm vx vv).run P w = .ok () w') (hm : a.eval m = vm) (hx : a.eval x = vx) (hv : a.eval v = vv) (h : wpList P ops Q rest (a.put o.dst undef) w') : wpList P ops Q (o :: rest) a w :=
  wpList_plain hgd fun K hK => by
    unfold Oper.wp
    simp [execOp, ho, hm, hx, hv, hr, Result.andThen]
    exact hK _ _ h
end Go.Proofs.YtgbbgdjdomkohaaGreat

/- Package schema: checkKeys. -/
namespace Go.Proofs.YtgbbgdjdomkohaaGreat
open Go.RowKit

theorem keyE_ok {fs : List Fl} {k : Nat} {x : Fl} (h : fs[k]? = some x) (h1 : uok uq0 (sbytes x.key) = true) (h2 : ¬ 1021 < x.key.size) (h3 : x.key ∉ (fs.take k).map Fl.key) : keyE fs k = 0 := by
  rw [keyE_some h, if_neg (by simp [h1]), if_neg h2, if_neg h3]
theorem keys_utf {fs : List Fl} {k : Nat} {x : Fl} (h : fs[k]? = some x) (h0 : ∀ j, j < k → keyE fs j = 0) (h1 : uok uq0 (sbytes x.key) = false) : keysN fs = 6 := by
  have e : keyE fs k = 6 := by rw [keyE_some h, if_pos h1]
  have hk := (List.getElem?_eq_some_iff.1 h).1
  rw [keysN, firstE_at hk h0 (by rw [e]; decide), e]
theorem keys_len {fs : List Fl} {k : Nat} {x : Fl} (h : fs[k]? = some x) (h0 : ∀ j, j < k → keyE fs j = 0) (h1 : uok uq0 (sbytes x.key) = true) (h2 : 1021 < x.key.size) : keysN fs = 4 := by
  have e : keyE fs k = 4 := by rw [keyE_some h, if_neg (by simp [h1]), if_pos h2]
  have hk := (List.getElem?_eq_some_iff.1 h).1
  rw [keysN, firstE_at hk h0 (by rw [e]; decide), e]
theorem keys_twice {fs : List Fl} {k : Nat} {x : Fl} (h : fs[k]? = some x) (h0 : ∀ j, j < k → keyE fs j = 0) (h1 : uok uq0 (sbytes x.key) = true) (h2 : ¬ 1021 < x.key.size) (h3 : x.key ∈ (fs.take k).map Fl.key) : keysN fs = 14 := by
  have e : keyE fs k = 14 := by rw [keyE_some h, if_neg (by simp [h1]), if_neg h2, if_pos h3]
  have hk := (List.getElem?_eq_some_iff.1 h).1
  rw [keysN, firstE_at hk h0 (by rw [e]; decide), e]
/-- Keys are as long as a text can be. -/
def okF (N : Nat) (fs : List Fl) : Prop := ∀ x ∈ fs, x.key.size ≤ N

open Classical in
set_option maxRecDepth 100000 in
set_option maxHeartbeats 2000000 in
theorem sch_checkKeys (fs : List Fl) (A : Option Addr) (cap n : Nat) (w : World) (hn : n ≤ w.heap.size) (hx : RdF w n A fs) (hok : okF 1048576 fs) (hm : fs.length ≤ 1099511627776) :
    Calls Tryz.prog 24 #[.slice A fs.length cap] w fun e w' => e = .returned (.int .i64 (keysN fs)) ∧ Below w.heap.size w w' := by
  have hmm := @run_makeMap Tryz.prog
  have HF : Hid (∀ W, Below w.heap.size w W → RdF W n A fs) := Lib.hid fun W hW => hx.keep (hW.mono hn)
  have HOK := Lib.hid hok
  obtain ⟨m, hml⟩ : ∃ m, fs.length = m := ⟨_, rfl⟩
  rw [hml] at hm ⊢
  have HM := Lib.hid hml
  clear hx hn hok hml
  go_enter Tryz.func24, Tryz.ntmps24
  go_wp2_with fail
  go_loopw [9] (fun i wr => ∃ k : Nat, k ≤ m ∧ i = .int .i64 (k : Int) ∧ Hid (Below w.heap.size w wr) ∧ Hid (SetM wr w.heap.size k (fun s => s ∈ (fs.take k).map Fl.key)) ∧ Hid (∀ j, j < k → keyE fs j = 0)) (fun i _ => m - (intOf i).toNat)
  case atStart => exact ⟨0, by omega, rfl, Lib.hid (below_alloc w _), Lib.hid ((SetM.made w).congr (by simp)), Lib.hid fun j hj => absurd hj (by omega)⟩
  case round =>
    obtain ⟨k, hk, rfl, HB, HS, HE⟩ := hrel
    by_cases hlt : k < m
    · obtain ⟨b, o, fd, rfl, -, -, X, c0, c1, c2⟩ := (HF.out wr HB.out).get (i := k) (by rw [HM.out]; exact hlt)
      have hsz := HOK.out fd (List.mem_of_getElem? X)
      have HSZ : Hid (fd.key.size ≤ maxLen) := Lib.hid (Nat.le_trans hsz (by decide))
      have HU := Lib.hid (fun W => utf_valid fd.key (Nat.le_trans hsz (by decide)) W)
      have HS1 := Lib.hid (HS.out.on (below_alloc wr (.cells #[.string fd.key, .int .i64 fd.node, .bool fd.opt] 27)))
      have HA := Lib.hid (HB.out.trans ((below_alloc wr (.cells #[.string fd.key, .int .i64 fd.node, .bool fd.opt] 27)).mono HB.out.size))
      have HBK : Hid (∀ W, Below (wr.alloc (.cells #[.string fd.key, .int .i64 fd.node, .bool fd.opt] 27)).heap.size (wr.alloc (.cells #[.string fd.key, .int .i64 fd.node, .bool fd.opt] 27)) W → W.cell? ⟨wr.heap.size, 0, none⟩ = some (.string fd.key) ∧ W.cell? ⟨wr.heap.size, 1, none⟩ = some (.int .i64 fd.node) ∧ W.cell? ⟨wr.heap.size, 2, none⟩ = some (.bool fd.opt)) := Lib.hid fun W hb => by
        have hb0 := (Blk.fresh wr 27 #[.string fd.key, .int .i64 fd.node, .bool fd.opt]).on hb
        exact ⟨by rw [hb0.cell]; rfl, by rw [hb0.cell]; rfl, by rw [hb0.cell]; rfl⟩
      have HKM : Hid (k < maxLen) := Lib.hid (by unfold maxLen; omega)
      have HX := Lib.hid X
      have HSK := Lib.hid (And.intro HS.out.lt hlt)
      clear X hsz HS
      have WAYS : (uok uq0 (sbytes fd.key) = false) ∨ (uok uq0 (sbytes fd.key) = true ∧ 1021 < fd.key.size) ∨ (uok uq0 (sbytes fd.key) = true ∧ ¬ 1021 < fd.key.size ∧ fd.key ∈ (fs.take k).map Fl.key) ∨ (uok uq0 (sbytes fd.key) = true ∧ ¬ 1021 < fd.key.size ∧ fd.key ∉ (fs.take k).map Fl.key) := by
        by_cases h1 : uok uq0 (sbytes fd.key) = true
        · by_cases h2 : 1021 < fd.key.size
          · exact .inr (.inl ⟨h1, h2⟩)
          · by_cases h3 : fd.key ∈ (fs.take k).map Fl.key
            · exact .inr (.inr (.inl ⟨h1, h2, h3⟩))
            · exact .inr (.inr (.inr ⟨h1, h2, h3⟩))
        · exact .inl (by simpa using h1)
      rcases WAYS with h1 | ⟨h1, h2⟩ | ⟨h1, h2, h3⟩ | ⟨h1, h2, h3⟩
      · have HR : Hid (keysN fs = 6) := Lib.hid (keys_utf HX.out HE.out h1)
        rw [h1] at HU
        clear h1
        go_wp2_with (first
          | (go_at_call 34; refine (HU.out _).mono ?_; rintro e w3 ⟨rfl, hb3⟩; have HB3 := Lib.hid (HA.out.trans (hb3.mono HA.out.size)); clear hb3)
          | fail)
        go_ret
        exact ⟨by rw [HR.out]; rfl, HB3.out⟩
      · have HR : Hid (keysN fs = 4) := Lib.hid (keys_len HX.out HE.out h1 h2)
        rw [h1] at HU
        have hz : (1021 : Int) < (fd.key.size : Int) := by omega
        clear h1 h2
        go_wp2_with (first
          | (go_at_call 34; refine (HU.out _).mono ?_; rintro e w3 ⟨rfl, hb3⟩; obtain ⟨d0, d1, d2⟩ := HBK.out w3 hb3; have HB3 := Lib.hid (HA.out.trans (hb3.mono HA.out.size)); clear hb3)
          | fail)
        go_ret
        exact ⟨by rw [HR.out]; rfl, HB3.out⟩
      · have HR : Hid (keysN fs = 14) := Lib.hid (keys_twice HX.out HE.out h1 h2 h3)
        have HMEM : Hid (decide (fd.key ∈ (fs.take k).map Fl.key) = true) := Lib.hid (decide_eq_true h3)
        rw [h1] at HU
        have hz : (fd.key.size : Int) ≤ 1021 := by omega
        clear h1 h2 h3
        go_wp2_with (first
          | (go_at_call 34; refine (HU.out _).mono ?_; rintro e w3 ⟨rfl, hb3⟩; obtain ⟨d0, d1, d2⟩ := HBK.out w3 hb3; have HB3 := Lib.hid (HA.out.trans (hb3.mono HA.out.size)); have HS3 := Lib.hid (HS1.out.on hb3); have hlook := HS3.out.look HSZ.out; simp only [HMEM.out] at hlook; clear hb3)
          | (at_mapUpdate; obtain ⟨w4, hR4, hS4, hG4⟩ := HS3.out.store HSZ.out HKM.out; have HR4 := Lib.hid hR4; have HS4 := Lib.hid hS4; have HG4 := Lib.hid hG4; clear hR4 hS4 hG4; (with_reducible refine wpList_map_run rfl rfl HR4.out ?_ ?_ ?_ ?_); (· rfl); (· rfl); (· rfl))
          | fail)
        go_ret
        exact ⟨by rw [HR.out]; rfl, HB3.out⟩
      · have HN : Hid (keyE fs k = 0) := Lib.hid (keyE_ok HX.out h1 h2 h3)
        have HMEM : Hid (decide (fd.key ∈ (fs.take k).map Fl.key) = false) := Lib.hid (decide_eq_false h3)
        rw [h1] at HU
        have hz : (fd.key.size : Int) ≤ 1021 := by omega
        clear h1 h2 h3
        go_wp2_with (first
          | (go_at_call 34; refine (HU.out _).mono ?_; rintro e w3 ⟨rfl, hb3⟩; obtain ⟨d0, d1, d2⟩ := HBK.out w3 hb3; have HB3 := Lib.hid (HA.out.trans (hb3.mono HA.out.size)); have HS3 := Lib.hid (HS1.out.on hb3); have hlook := HS3.out.look HSZ.out; simp only [HMEM.out] at hlook; clear hb3)
          | (at_mapUpdate; obtain ⟨w4, hR4, hS4, hG4⟩ := HS3.out.store HSZ.out HKM.out; have HR4 := Lib.hid hR4; have HS4 := Lib.hid hS4; have HG4 := Lib.hid hG4; clear hR4 hS4 hG4; (with_reducible refine wpList_map_run rfl rfl HR4.out ?_ ?_ ?_ ?_); (· rfl); (· rfl); (· rfl))
          | fail)
        go_roundw
        case rel => exact ⟨k + 1, by omega, by simp, Lib.hid (HB3.out.grown HG4.out HB3.out.size (fun j hj => by cases hj; exact Nat.le_refl _)), Lib.hid (HS4.out.congr fun s => by rw [take_map_snoc Fl.key HX.out, List.mem_append, List.mem_singleton]; exact Or.comm), Lib.hid fun j hj => by
          by_cases e : j = k
          · rw [e]; exact HN.out
          · exact HE.out j (by omega)⟩
        case measure => simp [intOf]; omega
    · obtain rfl : k = m := by omega
      have HR : Hid (keysN fs = 0) := Lib.hid (by rw [keysN, HM.out]; exact firstE_all HE.out)
      go_wp2_with fail
      go_ret
      exact ⟨by rw [HR.out]; rfl, HB.out⟩
end Go.Proofs.YtgbbgdjdomkohaaGreat

/- Package schema: checkOne, Check, Width. -/
namespace Go.Proofs.YtgbbgdjdomkohaaGreat
open Go.RowKit

/-- Bounds of a node. -/
structure okN (x : Nd) : Prop where
  v : okI 1048576 x.v
  f : okF 1048576 x.f
  lf : x.l.length + x.f.length ≤ 1099511627776
theorem any_none_of {l : List Int} {q : Int → Bool} (h : ∀ j, j < l.length → q (l.getD j 0) = false) : l.any q = false := by
  rw [Bool.eq_false_iff]
  intro ha
  obtain ⟨t, ht, hq⟩ := List.any_eq_true.1 ha
  obtain ⟨j, hj, rfl⟩ := List.mem_iff_getElem.1 ht
  have := h j hj
  rw [List.getD_eq_getElem?_getD, List.getElem?_eq_getElem hj] at this
  simp only [Option.getD_some] at this
  rw [this] at hq
  cases hq
theorem any_some_of {l : List Int} {q : Int → Bool} {j : Nat} (hj : j < l.length) (h : q (l.getD j 0) = true) : l.any q = true := by
  refine List.any_eq_true.2 ⟨l[j], List.getElem_mem hj, ?_⟩
  rw [List.getD_eq_getElem?_getD, List.getElem?_eq_getElem hj] at h
  exact h
theorem length_namedN (x : Nd) : (namedN x).length = x.l.length + x.f.length := by simp [namedN]

set_option maxRecDepth 100000 in
set_option maxHeartbeats 4000000 in
theorem sch_checkOne (x : Nd) (p : Pl) (n : Nat) (i m : Int) (w : World) (hn : n ≤ w.heap.size) (hx : NdB w n x p) (ho : okN x) :
    Calls Tryz.prog 16 #[vN x p, .int .i64 i, .int .i64 m] w fun e w' => e = .returned (.int .i64 (wrongN chI x i m)) ∧ Below w.heap.size w w' := by
  have b1 := Blk.fresh w 34 (nc x p)
  have S := below_alloc w (.cells (nc x p) 34)
  obtain ⟨w1, hw1⟩ : ∃ w1, w.alloc (.cells (nc x p) 34) = w1 := ⟨_, rfl⟩
  rw [hw1] at b1 S
  have hsz := ho.lf
  have hnd := length_namedN x
  have C1 := fun (hk : 0 ≤ x.k) (hk' : x.k ≤ 10) W (hW : Below w.heap.size w W) => sch_formed x p n W (Nat.le_trans hn hW.size) (hx.keep (hW.mono hn)) ho.v (by omega) (by omega) hk hk'
  have C2 := fun W => sch_ranged x p W
  have C3 := fun W (hW : Below w.heap.size w W) => sch_checkKeys x.f p.Af p.cf n W (Nat.le_trans hn hW.size) (hx.f.keep (hW.mono hn)) ho.f (by omega)
  have C4 := fun W (hW : Below w.heap.size w W) => sch_Named x p n W (Nat.le_trans hn hW.size) (hx.keep (hW.mono hn)) ho.lf
  have HW : Hid (wrongN chI x i m = if x.k < 0 ∨ 10 < x.k then 18 else if formN chI x = false then 11 else if rangedN x = false then 15 else if keysN x.f ≠ 0 then keysN x.f else if (namedN x).any (nameB i m) then 13 else 0) := Lib.hid rfl
  generalize wrongN chI x i m = res at *
  generalize formN chI x = r1 at *
  generalize rangedN x = r2 at *
  generalize keysN x.f = r3 at *
  generalize namedN x = L at *
  have HC1 := Lib.hid C1
  have HC2 := Lib.hid C2
  have HC3 := Lib.hid C3
  have HC4 := Lib.hid C4
  have HB := Lib.hid b1
  have HS := Lib.hid S
  have HUP : Hid (∀ W, Below w1.heap.size w1 W → Below w.heap.size w W) := Lib.hid fun W hW => S.trans (hW.mono S.size)
  have HLN : Hid (L.length ≤ 1099511627776) := Lib.hid (by omega)
  unfold nc at b1 hw1 HB
  obtain ⟨p0, p1, p2, p3, p4, p5, p6, p7, p8⟩ := nblk b1
  clear C1 C2 C3 C4 b1 S hn hx ho hsz hnd
  simp only [vN] at HC1 HC2 HC4 ⊢
  go_enter Tryz.func16, Tryz.ntmps16
  by_cases hk : x.k < 0 ∨ 10 < x.k
  · have HR : Hid (res = 18) := Lib.hid (by rw [HW.out, if_pos hk])
    go_wp2_with fail
    all_goals first
      | (go_ret; exact ⟨by rw [HR.out]; rfl, HS.out⟩)
      | (exfalso; omega)
  have hk1 : ¬ x.k < 0 := fun h => hk (.inl h)
  have hk2 : ¬ 10 < x.k := fun h => hk (.inr h)
  have HC1' := Lib.hid (HC1.out (by omega) (by omega))
  have HW' := Lib.hid ((HW.out).trans (if_neg hk))
  clear hk HC1 HW
  cases r1 with
  | false =>
    have HR : Hid (res = 11) := Lib.hid (by rw [HW'.out]; rfl)
    go_wp2_with (first
      | (go_at_call 22; refine (HC1'.out _ HS.out).mono ?_; rintro e w2 ⟨rfl, hb2⟩; have HB2 := Lib.hid hb2; clear hb2)
      | fail)
    go_ret
    exact ⟨by rw [HR.out]; rfl, HUP.out _ HB2.out⟩
  | true =>
  cases r2 with
  | false =>
    have HR : Hid (res = 15) := Lib.hid (by rw [HW'.out]; rfl)
    go_wp2_with (first
      | (go_at_call 22; refine (HC1'.out _ HS.out).mono ?_; rintro e w2 ⟨rfl, hb2⟩; obtain ⟨s0, s1, s2, s3, s4, s5, s6, s7, s8⟩ := nblk (HB.out.on hb2); have HB2 := Lib.hid hb2; clear hb2)
      | (go_at_call 23; refine (HC2.out _).mono ?_; rintro e w3 ⟨rfl, hb3⟩; have HB3 := Lib.hid (HB2.out.trans (hb3.mono HB2.out.size)); clear hb3)
      | fail)
    go_ret
    exact ⟨by rw [HR.out]; rfl, HUP.out _ HB3.out⟩
  | true =>
  by_cases h3 : r3 = 0
  · subst h3
    have HR : Hid (res = if L.any (nameB i m) then 13 else 0) := Lib.hid (by rw [HW'.out]; rfl)
    go_wp2_with (first
      | (go_at_call 22; refine (HC1'.out _ HS.out).mono ?_; rintro e w2 ⟨rfl, hb2⟩; obtain ⟨s0, s1, s2, s3, s4, s5, s6, s7, s8⟩ := nblk (HB.out.on hb2); have HB2 := Lib.hid hb2; clear hb2)
      | (go_at_call 23; refine (HC2.out _).mono ?_; rintro e w3 ⟨rfl, hb3⟩; have HB3 := Lib.hid (HB2.out.trans (hb3.mono HB2.out.size)); obtain ⟨t0, t1, t2, t3, t4, t5, t6, t7, t8⟩ := nblk (HB.out.on HB3.out); clear hb3)
      | (go_at_call 24; refine (HC3.out _ (HUP.out _ HB3.out)).mono ?_; rintro e w4 ⟨rfl, hb4⟩; have HB4 := Lib.hid (HB3.out.trans (hb4.mono HB3.out.size)); obtain ⟨u0, u1, u2, u3, u4, u5, u6, u7, u8⟩ := nblk (HB.out.on HB4.out); clear hb4)
      | (go_at_call 25; refine (HC4.out _ (HUP.out _ HB4.out)).mono ?_; rintro e w5 ⟨⟨v, rfl, hO⟩, hb5⟩; obtain ⟨A, cap, rfl, hle, -, hnil, -, hrd⟩ := hO.form; have HRD := Lib.hid hrd; have HB5 := Lib.hid (HB4.out.trans (hb5.mono HB4.out.size)); clear hb5 hO hrd hle hnil)
      | fail)
    clear p0 p1 p2 p3 p4 p5 p6 p7 p8 s0 s1 s2 s3 s4 s5 s6 s7 s8 t0 t1 t2 t3 t4 t5 t6 t7 t8 u0 u1 u2 u3 u4 u5 u6 u7 u8 hw1
    obtain ⟨q, hq⟩ : ∃ q, L.length = q := ⟨_, rfl⟩
    have HQ := Lib.hid hq
    rw [hq] at HLN ⊢
    have hqb : (q : Int) ≤ 1099511627776 := by have := HLN.out; omega
    clear hq HLN
    go_loopw [36] (fun v wr => ∃ k : Nat, k ≤ q ∧ v = .int .i64 (k : Int) ∧ wr = w5 ∧ Hid (∀ j, j < k → nameB i m (L.getD j 0) = false)) (fun v _ => q - (intOf v).toNat)
    case atStart => exact ⟨0, by omega, rfl, rfl, Lib.hid fun j hj => absurd hj (by omega)⟩
    case round =>
      obtain ⟨k, hk, rfl, rfl, HE⟩ := hrel
      by_cases hlt : k < q
      · obtain ⟨b, o, rfl, -, c0⟩ := HRD.out.get (i := k) (by rw [HQ.out]; exact hlt)
        obtain ⟨t, ht⟩ : ∃ t, L.getD k 0 = t := ⟨_, rfl⟩
        rw [ht] at c0
        have HT := Lib.hid ht
        clear ht
        by_cases h1 : t ≤ i
        · have HF : Hid (res = 13) := Lib.hid (by rw [HR.out, if_pos (any_some_of (j := k) (by rw [HQ.out]; exact hlt) (by rw [HT.out]; simp [nameB, h1]))])
          go_wp2_with fail
          go_ret
          exact ⟨by rw [HF.out]; rfl, HUP.out _ HB5.out⟩
        · by_cases h2 : m ≤ t
          · have HF : Hid (res = 13) := Lib.hid (by rw [HR.out, if_pos (any_some_of (j := k) (by rw [HQ.out]; exact hlt) (by rw [HT.out]; simp [nameB, h2]))])
            go_wp2_with fail
            go_ret
            exact ⟨by rw [HF.out]; rfl, HUP.out _ HB5.out⟩
          · have HN : Hid (nameB i m (L.getD k 0) = false) := Lib.hid (by rw [HT.out]; simp [nameB]; omega)
            go_wp2_with fail
            go_roundw
            case rel => exact ⟨k + 1, by omega, by simp, trivial, Lib.hid fun j hj => by
              by_cases e : j = k
              · rw [e]; exact HN.out
              · exact HE.out j (by omega)⟩
            case measure => simp [intOf]; omega
      · obtain rfl : k = q := by omega
        have HF : Hid (res = 0) := Lib.hid (by rw [HR.out, any_none_of (by rw [HQ.out]; exact HE.out)]; rfl)
        go_wp2_with fail
        go_ret
        exact ⟨by rw [HF.out]; rfl, HUP.out _ HB5.out⟩
  · have HR : Hid (res = r3) := Lib.hid (by rw [HW'.out, if_neg (by decide), if_neg (by decide), if_pos h3])
    have e3 : (r3 != 0) = true := by simp [h3]
    clear h3
    go_wp2_with (first
      | (go_at_call 22; refine (HC1'.out _ HS.out).mono ?_; rintro e w2 ⟨rfl, hb2⟩; obtain ⟨s0, s1, s2, s3, s4, s5, s6, s7, s8⟩ := nblk (HB.out.on hb2); have HB2 := Lib.hid hb2; clear hb2)
      | (go_at_call 23; refine (HC2.out _).mono ?_; rintro e w3 ⟨rfl, hb3⟩; have HB3 := Lib.hid (HB2.out.trans (hb3.mono HB2.out.size)); obtain ⟨t0, t1, t2, t3, t4, t5, t6, t7, t8⟩ := nblk (HB.out.on HB3.out); clear hb3)
      | (go_at_call 24; refine (HC3.out _ (HUP.out _ HB3.out)).mono ?_; rintro e w4 ⟨rfl, hb4⟩; have HB4 := Lib.hid (HB3.out.trans (hb4.mono HB3.out.size)); clear hb4)
      | fail)
    go_ret
    exact ⟨by rw [HR.out]; rfl, HUP.out _ HB4.out⟩
end Go.Proofs.YtgbbgdjdomkohaaGreat

/- Results of several kinds. -/
namespace Go.Proofs.YtgbbgdjdomkohaaGreat
open Go.RowKit

theorem results_tmp3 {fn : Func} {t u v : Tmp} (h : fn.results = #[.tmp t, .tmp u, .tmp v]) (tmps : Array Value) (P : Program) (w : World) :
    (results fn tmps).run P w = .ok (.tuple #[tmps.getD t undef, tmps.getD u undef, tmps.getD v undef]) w := by
  simp [results, h]
theorem results_tmp6 {fn : Func} {t u v x y z : Tmp} (h : fn.results = #[.tmp t, .tmp u, .tmp v, .tmp x, .tmp y, .tmp z]) (tmps : Array Value) (P : Program) (w : World) :
    (results fn tmps).run P w = .ok (.tuple #[tmps.getD t undef, tmps.getD u undef, tmps.getD v undef, tmps.getD x undef, tmps.getD y undef, tmps.getD z undef]) w := by
  simp [results, h]
/-- A struct in memory ahead of two numbers. -/
theorem results_blk3 {P : Program} {fn : Func} {p a b : Tmp} {ty : TypeId} (h : fn.results = #[.cell p ty, .tmp a, .tmp b]) (tmps : Array Value) {w : World} {g : Nat} {t : TypeId} {cs : Array Value} {d : TypeDesc} (hp : tmps.getD p undef = .pointer (some ⟨g, 0, none⟩))
    (hg : Blk w g t cs) (hu : P.underlying ty = some d) (hd : d.isRow = true) (hi : (P.info? ty).map (·.size) = some cs.size) :
    (results fn tmps).run P w = .ok (.tuple #[.agg cs, tmps.getD a undef, tmps.getD b undef]) w := by
  have hp' : tmps[p]?.getD undef = .pointer (some ⟨g, 0, none⟩) := by simpa using hp
  have hl := run_loadVar_row w g t ty cs (0, 0) d hg hu (by cases d <;> simp_all [TypeDesc.isRow]) hi
  simp [results, h, hp', asAddr, hl]
/-- A struct in memory ahead of one. -/
theorem results_blk2 {P : Program} {fn : Func} {p a : Tmp} {ty : TypeId} (h : fn.results = #[.cell p ty, .tmp a]) (tmps : Array Value) {w : World} {g : Nat} {t : TypeId} {cs : Array Value} {d : TypeDesc} (hp : tmps.getD p undef = .pointer (some ⟨g, 0, none⟩))
    (hg : Blk w g t cs) (hu : P.underlying ty = some d) (hd : d.isRow = true) (hi : (P.info? ty).map (·.size) = some cs.size) :
    (results fn tmps).run P w = .ok (.tuple #[.agg cs, tmps.getD a undef]) w := by
  have hp' : tmps[p]?.getD undef = .pointer (some ⟨g, 0, none⟩) := by simpa using hp
  have hl := run_loadVar_row w g t ty cs (0, 0) d hg hu (by cases d <;> simp_all [TypeDesc.isRow]) hi
  simp [results, h, hp', asAddr, hl]
end Go.Proofs.YtgbbgdjdomkohaaGreat

/- Package schema: Check, Width. -/
namespace Go.Proofs.YtgbbgdjdomkohaaGreat
open Go.RowKit

theorem checkE_bad {ch : It → Int} {xs : List Nd} (h : xs.length < 1 ∨ 256 < xs.length) : checkE ch xs = 16 ∧ checkI ch xs = 0 := ⟨by rw [checkE, if_pos h], by rw [checkI, if_pos h]⟩
theorem checkE_at {ch : It → Int} {xs : List Nd} {k : Nat} {x : Nd} (h : ¬ (xs.length < 1 ∨ 256 < xs.length)) (h0 : ∀ j, j < k → errN ch xs j = 0) (hx : xs[k]? = some x) (he : wrongN ch x k xs.length ≠ 0) : checkE ch xs = wrongN ch x k xs.length ∧ checkI ch xs = k := by
  have hk := (List.getElem?_eq_some_iff.1 hx).1
  have e := errN_some (ch := ch) hx
  exact ⟨by rw [checkE, if_neg h, firstE_at hk h0 (by rw [e]; exact he), e], by rw [checkI, if_neg h, firstI_at hk h0 (by rw [e]; exact he)]⟩
theorem checkE_all {ch : It → Int} {xs : List Nd} (h : ¬ (xs.length < 1 ∨ 256 < xs.length)) (h0 : ∀ j, j < xs.length → errN ch xs j = 0) : checkE ch xs = 0 ∧ checkI ch xs = 0 :=
  ⟨by rw [checkE, if_neg h, firstE_all h0], by rw [checkI, if_neg h, firstI_all h0]⟩
/-- A block of one cell. -/
theorem sblk {w : World} {g : Nat} {t : TypeId} {a : Value} (h : Blk w g t #[a]) : w.cell? ⟨g, 0, none⟩ = some a := by rw [h.cell]; rfl

set_option maxRecDepth 100000 in
set_option maxHeartbeats 4000000 in
theorem sch_Check (xs : List Nd) (A : Option Addr) (cap n : Nat) (w : World) (hn : n ≤ w.heap.size) (hx : RdN w n A xs) (ho : ∀ x ∈ xs, okN x) (hm : xs.length ≤ 1099511627776) :
    Calls Tryz.prog 8 #[vS A xs cap] w fun e w' => e = .returned (.tuple #[.int .i64 (checkI chI xs : Nat), .int .i64 (checkE chI xs)]) ∧ Below w.heap.size w w' := by
  obtain ⟨w1, hw1, b1, S⟩ := iblk1 w 42 #[.slice A xs.length cap]
  have HF : Hid (∀ W, Below w.heap.size w W → RdN W n A xs) := Lib.hid fun W hW => hx.keep (hW.mono hn)
  have HOK := Lib.hid ho
  have HN := Lib.hid hn
  have HB := Lib.hid b1
  have HS := Lib.hid S
  have p0 := sblk b1
  have HUP : Hid (∀ W, Below w1.heap.size w1 W → Below w.heap.size w W) := Lib.hid fun W hW => S.trans (hW.mono S.size)
  obtain ⟨m, hml⟩ : ∃ m, xs.length = m := ⟨_, rfl⟩
  have HM := Lib.hid hml
  rw [hml] at p0 hw1 hm HB
  unfold vS
  rw [hml]
  clear b1 S hx hn ho hml
  obtain ⟨ri, hri⟩ : ∃ ri : Int, ((checkI chI xs : Nat) : Int) = ri := ⟨_, rfl⟩
  obtain ⟨re, hre⟩ : ∃ re, checkE chI xs = re := ⟨_, rfl⟩
  rw [hri, hre]
  have HRI := Lib.hid hri
  have HRE := Lib.hid hre
  clear hri hre
  have HSET : Hid (∀ a b, checkE chI xs = a ∧ checkI chI xs = b → re = a ∧ ri = (b : Int)) := Lib.hid fun a b h => ⟨HRE.out.symm.trans h.1, HRI.out.symm.trans (by rw [h.2])⟩
  clear HRI HRE
  go_enter Tryz.func8, Tryz.ntmps8
  by_cases hb : m < 1 ∨ 256 < m
  · obtain ⟨rfl, rfl⟩ := HSET.out _ _ (checkE_bad (ch := chI) (by rw [HM.out]; exact hb))
    rcases hb with hb | hb
    · have e1 : (m : Int) < 1 := by omega
      clear hb
      go_wp2_with fail
      go_ret2
      exact ⟨rfl, HS.out⟩
    · have e1 : ¬ (m : Int) < 1 := by omega
      have e2 : (256 : Int) < m := by omega
      clear hb
      go_wp2_with fail
      go_ret2
      exact ⟨rfl, HS.out⟩
  have e1 : ¬ (m : Int) < 1 := by omega
  have e2 : ¬ (256 : Int) < m := by omega
  have HBAD : Hid (¬ (xs.length < 1 ∨ 256 < xs.length)) := Lib.hid (by rw [HM.out]; exact hb)
  clear hb
  go_wp2_with fail
  clear e1 e2
  go_loopw [20] (fun i wr => ∃ k : Nat, k ≤ m ∧ i = .int .i64 (k : Int) ∧ Hid (Below w1.heap.size w1 wr) ∧ Hid (∀ j, j < k → errN chI xs j = 0)) (fun i _ => m - (intOf i).toNat)
  case atStart => exact ⟨0, by omega, rfl, Lib.hid (Below.refl _ _), Lib.hid fun j hj => absurd hj (by omega)⟩
  case round =>
    obtain ⟨k, hk, rfl, HBr, HE⟩ := hrel
    by_cases hlt : k < m
    · obtain ⟨b, o, x, p, rfl, hbn, hbw, X, mX, hnd, c0, c1, c2, c3, c4, c5, c6, c7, c8⟩ := (HF.out wr (HUP.out _ HBr.out)).get (i := k) (by rw [HM.out]; exact hlt)
      have hox := HOK.out x mX
      have hnr : n ≤ wr.heap.size := Nat.le_trans HN.out (HUP.out _ HBr.out).size
      have HCH := Lib.hid (fun W (hW : Below wr.heap.size wr W) => sch_checkOne x p n (k : Int) (m : Int) W (Nat.le_trans hnr hW.size) (hnd.keep (hW.mono hnr)) hox)
      have HX := Lib.hid X
      have HBK : Hid (∀ W, Below (wr.alloc (.cells (nc x p) 34)).heap.size (wr.alloc (.cells (nc x p) 34)) W → Below w1.heap.size w1 W) := Lib.hid fun W hb => (HBr.out.trans ((below_alloc wr _).mono HBr.out.size)).trans (hb.mono (Nat.le_trans HBr.out.size (below_alloc wr _).size))
      have HAL := Lib.hid (below_alloc wr (.cells (nc x p) 34))
      have HSB : Hid (∀ W, Below w1.heap.size w1 W → W.cell? ⟨w.heap.size, 0, none⟩ = some (.slice (some ⟨b, o, none⟩) m cap)) := Lib.hid fun W hb => sblk (HB.out.on hb)
      have s0 := HSB.out _ HBr.out
      have s1 := HSB.out _ (HBr.out.trans ((below_alloc wr (.cells (nc x p) 34)).mono HBr.out.size))
      clear X mX hnd hox hnr hbn hbw
      obtain ⟨r, hr⟩ : ∃ r, wrongN chI x k m = r := ⟨_, rfl⟩
      rw [hr] at HCH
      have HR := Lib.hid hr
      clear hr
      unfold nc at HBK HAL s1
      simp only [vN] at HCH
      by_cases h0 : r = 0
      · subst h0
        have HNX : Hid (errN chI xs k = 0) := Lib.hid (by rw [errN_some HX.out, HM.out]; exact HR.out)
        go_wp2_with (first
          | (go_at_call 16; refine (HCH.out _ HAL.out).mono ?_; rintro e w4 ⟨rfl, hb4⟩; have HB4 := Lib.hid (HBK.out _ hb4); clear hb4)
          | fail)
        go_roundw
        case rel => exact ⟨k + 1, by omega, by simp, HB4, Lib.hid fun j hj => by
          by_cases e : j = k
          · rw [e]; exact HNX.out
          · exact HE.out j (by omega)⟩
        case measure => simp [intOf]; omega
      · obtain ⟨rfl, rfl⟩ := HSET.out _ _ (by have := checkE_at (ch := chI) HBAD.out HE.out HX.out (by rw [HM.out, HR.out]; exact h0); rw [HM.out, HR.out] at this; exact this)
        have e3 : (re != 0) = true := by simp [h0]
        clear h0
        go_wp2_with (first
          | (go_at_call 16; refine (HCH.out _ HAL.out).mono ?_; rintro e w4 ⟨rfl, hb4⟩; have HB4 := Lib.hid (HBK.out _ hb4); clear hb4)
          | fail)
        go_ret2
        exact ⟨rfl, HUP.out _ HB4.out⟩
    · obtain rfl : k = m := by omega
      obtain ⟨rfl, rfl⟩ := HSET.out _ _ (checkE_all (ch := chI) HBAD.out (by rw [HM.out]; exact HE.out))
      go_wp2_with fail
      go_ret2
      exact ⟨rfl, HUP.out _ HBr.out⟩

end Go.Proofs.YtgbbgdjdomkohaaGreat
