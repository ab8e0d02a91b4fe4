/- A slice of the call's own at a known block: one of its numbers is read, is written. -/
import Derived.Test.YtlipjaopbhdbeaaKAC
import Derived.StillTail
import Derived.Deep.QuietTactic
import Derived.Still
import Derived.Test.YtlipjaopbhdbeaaKAL
import Derived.Test.YtlipjaopbhdbeaaKAA
import Derived.Test.YtlipjaopbhdbeaaKAG
namespace Go.Proofs.Ytlipjaopbhdbeaa
open Go.RowKit

section
variable {w w' : World} {B g n cap : Nat} {k : IntKind} {e : TypeId} {zs : List Int}
theorem Own.at (h : Own w B k e (.slice (some ⟨g, 0, none⟩) n cap) zs) {j : Nat} (hj : j < zs.length) : w.cell? ⟨g, j, none⟩ = some (.int k (zs.getD j 0)) ∧ w.frozen? ⟨g, j, none⟩ = false := by
  obtain ⟨g', cap', hv, _, h1, h2, _⟩ := h.put hj 0
  injection hv with e1 e2 e3
  injection e1 with e1
  injection e1 with e1
  subst e1
  exact ⟨h1, h2⟩
theorem Own.set (h : Own w B k e (.slice (some ⟨g, 0, none⟩) n cap) zs) {j : Nat} (hj : j < zs.length) (x : Int) : Own (w.setCell ⟨g, j, none⟩ (.int k x)) B k e (.slice (some ⟨g, 0, none⟩) n cap) (zs.set j x) := by
  obtain ⟨g', cap', hv, _, _, _, h3, _⟩ := h.put hj x
  injection hv with e1 e2 e3
  injection e1 with e1
  injection e1 with e1
  subst e1
  exact h3
theorem Own.ge (h : Own w B k e (.slice (some ⟨g, 0, none⟩) n cap) zs) : B ≤ g := by
  obtain ⟨A, cap', hv, _, _, _, hb, _⟩ := h.form
  injection hv with e1 e2 e3
  obtain ⟨b, hp, hB⟩ := hb _ e1.symm
  injection hp with e1
  omega
theorem Own.lt (h : Own w B k e (.slice (some ⟨g, 0, none⟩) n cap) zs) (hn : 0 < zs.length) : g < w.heap.size := block_lt_of_cell (h.at hn).1
theorem Own.len (h : Own w B k e (.slice (some ⟨g, 0, none⟩) n cap) zs) : n = zs.length := by
  obtain ⟨A, cap', hv, _, _, _, _, _⟩ := h.form
  injection hv
/-- Its block. -/
theorem Own.head {v : Value} (h : Own w B k e v zs) (hn : 0 < zs.length) : ∃ g cap, v = .slice (some ⟨g, 0, none⟩) zs.length cap := by
  obtain ⟨g, cap, hv, _⟩ := h.put hn 0
  exact ⟨g, cap, hv⟩
end
end Go.Proofs.Ytlipjaopbhdbeaa

/- A region that draws its order: first operations that only read, and calls that only read and draw, in any order; then the others, one by one. One walk in the order of the text serves every order. -/
namespace Go.Proofs.Ytlipjaopbhdbeaa
open Go

section
variable {P : Program} {ops : Array Oper} {md : Region.Mode} {C : World → Prop}

/-- f operations come up, all ahead of number n, whatever their order; then L holds. -/
def headQ (P : Program) (md : Region.Mode) (ops : Array Oper) (C : World → Prop) (n : Nat) (L : Array Bool → Act → Prop) : Nat → Array Bool → Act → Prop
  | 0, seen, a => L seen a
  | f + 1, seen, a => Region.ready md ops seen ≠ [] ∧ ∀ i, i ∈ Region.ready md ops seen → i < n ∧ qOp P ops C i (fun b => headQ P md ops C n L f (seen.setIfInBounds i true) b) a

theorem any_of_headQ {n g : Nat} {L : Array Bool → Act → Prop} {R : Exit → Act → World → Prop} (hL : ∀ seen a w, C w → L seen a → wpAny P md ops R g seen a w) (f : Nat) :
    ∀ (seen : Array Bool) (a : Act) (w : World), C w → headQ P md ops C n L f seen a → wpAny P md ops R (f + g) seen a w := by
  induction f with
  | zero => intro seen a w hw h; rw [Nat.zero_add]; exact hL _ _ _ hw h
  | succ f ih =>
    intro seen a w hw h
    rw [Nat.add_right_comm]
    refine ⟨fun e => (h.1 e).elim, fun i hi => ?_⟩
    exact wpOp_of_qOp hw (fun b w' hw' hb => ih _ b w' hw' hb) (h.2 i hi).2

/-- The next operation of the text may come first. -/
theorem headQ_first {n i : Nat} {oi : Oper} {v : Value} {L : Array Bool → Act → Prop} (hi : ops[i]? = some oi) (hsel : ∀ (j : Nat) (o : Oper) cs b, ops[j]? = some o → o.op ≠ .select cs b)
    (hs : Region.sinkB md ops n = true) (hc : Region.chainB md ops n = true) (hn : n < ops.size) (hin : i < n) (hend : ∀ seen a, L seen a → ∀ j, j ∈ Region.ready md ops seen → n ≤ j) (f : Nat) :
    ∀ (seen : Array Bool) (a : Act), HeadInv md ops n seen → (∀ j oj, ops[j]? = some oj → j ≠ i → seen.getD j true = false → (∀ e ∈ oj.after, Region.binds md e = true → e.on ≠ i) → oi.apart ops oj = true) →
      i ∈ Region.ready md ops seen → YieldsIn P ops C oi v a → headQ P md ops C n L f (seen.setIfInBounds i true) (a.put oi.dst v) → headQ P md ops C n L (f + 1) seen a := by
  induction f with
  | zero =>
    intro seen a inv _ hr hy H
    refine ⟨List.ne_nil_of_mem hr, fun j hj => ?_⟩
    have hjn : j < n := Nat.lt_of_not_le fun hle => tail_waits hs hc hn inv _ i rfl hin (mem_ready.1 hr).1 j hle hj
    refine ⟨hjn, ?_⟩
    rcases Decidable.em (j = i) with e | e
    · rw [e]; exact hy.qOp hi H
    · exact absurd (hend _ _ H j (ready_mono hj e)) (Nat.not_le_of_lt hjn)
  | succ f ih =>
    intro seen a inv hfree hr hy H
    have hun := (mem_ready.1 hr).1
    refine ⟨List.ne_nil_of_mem hr, fun j hj => ?_⟩
    have hjn : j < n := Nat.lt_of_not_le fun hle => tail_waits hs hc hn inv _ i rfl hin hun j hle hj
    refine ⟨hjn, ?_⟩
    rcases Decidable.em (j = i) with e | e
    · rw [e]; exact hy.qOp hi H
    obtain ⟨hju, oj, hoj, hall⟩ := mem_ready.1 hj
    have hno : ∀ x ∈ oj.after, Region.binds md x = true → x.on ≠ i := fun x hx hb he => by
      have := hall x hx hb
      rw [he, getD_both hun] at this
      exact Bool.noConfusion this
    have h1 := (H.2 j (ready_mono hj e)).2
    have h2 := qOp_put hoj (hfree j oj hoj e hju hno) (fun cs b => hsel i oi cs b hi) (fun cs b => hsel j oj cs b hoj) hy h1
    refine qOp_mono (fun b hb => ?_) h2
    refine ih _ b (inv.set hj hjn) (fun k ok hk hki hku hkn => ?_) (ready_mono hr (Ne.symm e)) hb.1 ?_
    · refine hfree k ok hk hki ?_ hkn
      rcases Decidable.em (j = k) with ejk | ejk
      · rw [← ejk]; exact hju
      · rwa [getD_set_ne true ejk] at hku
    · rw [Array.setIfInBounds_comm _ _ e]
      exact hb.2

theorem headQ_lex {n g : Nat} {K : Act → Prop} (hsel : Region.noSelect ops = true) (hs : Region.sinkB md ops n = true) (hc : Region.chainB md ops n = true) (hn : n < ops.size) (l : List Oper) :
    ∀ (k : Nat) (seen : Array Bool) (a : Act), (∀ j, j < l.length → l[j]? = ops[k + j]?) → k + l.length = n → HeadInv md ops n seen → Region.lexHead md ops g l.length k seen = true → wpQuiet P ops C K l a →
      headQ P md ops C n (fun s b => Region.seqB md ops g n s = true ∧ K b) l.length seen a := by
  induction l with
  | nil =>
    intro k seen a _ hk _ hB h
    obtain rfl : k = n := hk
    exact ⟨hB, h⟩
  | cons o l ih =>
    intro k seen a hl hk inv hB h
    have h0 : ops[k]? = some o := (hl 0 (Nat.succ_pos _)).symm
    rw [List.length_cons] at hk
    simp only [List.length_cons, Region.lexHead, Bool.and_eq_true, List.contains_iff_mem] at hB
    have hkn : k < n := by omega
    have hq : qOp P ops C k (wpQuiet P ops C K l) a := by unfold qOp; rw [h0]; exact h
    obtain ⟨v, hy, hK⟩ := yieldsIn_of_qOp h0 hq
    refine headQ_first h0 (Region.noSelect_spec hsel) hs hc hn hkn (fun s b hL => seqB_ready hL.1) l.length seen a inv (Region.free_spec h0 hB.1.2) hB.1.1 hy ?_
    refine ih (k + 1) _ _ (fun j hj => ?_) (by omega) (inv.set hB.1.1 hkn) hB.2 hK
    have := hl (j + 1) (by simpa using hj)
    rw [show k + 1 + j = k + (j + 1) by omega, ← this]
    rfl

/-- The region: its first n operations quiet, the others behind them in the order of the text. -/
theorem wp_region_quiet_tail {id : Nat} {Q : Exit → Act → World → Prop} {a : Act} {w : World} {l : List Oper} (n : Nat) (hm : P.follows .mixedOrders = true) (hB : Region.lexTailB .any l.toArray n = true)
    (h : wpQuiet P l.toArray (fun w' => ∃ d, w' = w.drewN d) (fun b => ∀ w', (∃ d, w' = w.drewN d) → wpList P l.toArray Q (l.drop n) b w') (l.take n) a) : (Code.region id l.toArray true).wp P Q a w := by
  simp only [Region.lexTailB, Bool.and_eq_true, decide_eq_true_eq] at hB
  obtain ⟨⟨⟨⟨hsel, hn⟩, hs⟩, hc⟩, hlex⟩ := hB
  have hn' : n < l.length := hn
  have htl : (l.take n).length = n := by rw [List.length_take]; omega
  have hsz : l.toArray.size - n = (l.drop n).length := by rw [List.length_drop]; rfl
  rw [hsz] at hlex
  have inv0 : HeadInv .any l.toArray n (Array.replicate l.toArray.size false) :=
    ⟨Array.size_replicate, fun j _ _ hj => (by rw [getD_replicate_false] at hj; exact Bool.noConfusion hj), fun t _ ht => getD_in (by rw [Array.size_replicate]; exact ht) (getD_replicate_false _ _)⟩
  have H := headQ_lex (md := .any) hsel hs hc hn (l.take n) 0 _ a (fun j hj => by rw [htl] at hj; simp [hj]) (by omega) inv0 (by rw [htl]; exact hlex) h
  have H2 := any_of_headQ (R := Q) (g := (l.drop n).length) (fun s b w' hw' hL => wpAny_of_seq (l.drop n) n s b w' (fun j => by simp [List.getElem?_drop]) hL.1 (hL.2 w' hw')) _ _ _ { w with drawn := w.drawn + 1 } ⟨1, rfl⟩ H
  refine wp_region_any hm ?_
  rw [htl, ← hsz, show n + (l.toArray.size - n) = l.toArray.size by have : l.toArray.size = l.length := rfl; omega] at H2
  exact H2
end
end Go.Proofs.Ytlipjaopbhdbeaa

/- The document's bytes of a number; its heads; the program's. -/
namespace Go.Proofs.Ytlipjaopbhdbeaa
open Go.RowKit

theorem take_le_rev (n : Nat) (x : Int) (k : Nat) (hk : k < n) : (le n x).reverse.take (k + 1) = (le n x).reverse.take k ++ [x / 256 ^ (n - 1 - k) % 256] := by
  rw [List.take_add_one]
  congr 1
  have h1 : k < (le n x).reverse.length := by simp [length_le]; exact hk
  rw [List.getElem?_eq_getElem h1, List.getElem_reverse]
  simp [le]
theorem hinfo1 : (Try.prog.info? 5).map (fun i => (i.zero, i.size, i.bytes)) = some (some (.int .u8 0), 1, 1) := by kernel_rfl
/-- The head of a major type, a width, an argument. -/
def hinf (W a : Int) : Int := if W = 0 then a else if W = 1 then 24 else if W = 2 then 25 else if W = 4 then 26 else 27
def hlay (m W a : Int) : List Int := (m * 32 + hinf W a) :: (le W.toNat a).reverse
def hputL (m a : Int) : List Int := if m = 7 ∧ 24 ≤ a ∧ (a < 32 ∨ 255 < a) then [] else hlay m (leastW a) a
theorem le_zero (a : Int) : le 0 a = [] := rfl
theorem le_one (a : Int) : le 1 a = [a % 256] := by simp [le, List.range_succ]
theorem own_cells (w : World) (t : TypeId) (zs : List Int) (h : zs.length ≤ 1000) : Own (w.alloc (.cells (nums .u8 zs) t)) w.heap.size .u8 t (.slice (some ⟨w.heap.size, 0, none⟩) zs.length zs.length) zs :=
  Own.ofBlk (Blk.fresh w t _) (Nat.le_refl _) (by unfold maxLen; omega)
/-- One number ahead of others. -/
theorem join_run {w w1 w2 : World} {z : Int} {v : Value} {L : List Int} {n : Nat} (hn : L.length = n) (h1 : w1 = w.alloc (.cells #[.int .u8 z] 5)) (hb : Below w1.heap.size w1 w2) (ho : Own w2 w1.heap.size .u8 5 v L) (hl : n ≤ 1000) :
    ∃ A cap v' w3, v = .slice A n cap ∧ (Builtin.append_ #[28, 28] 28 #[.slice (some ⟨w.heap.size, 0, none⟩) 1 1, .slice A n cap]).run Try.prog w2 = .ok v' w3 ∧ Own w3 w.heap.size .u8 5 v' (z :: L) ∧ Below w.heap.size w w3 := by
  subst h1 hn
  have o1 := (own_cells w 5 [z] (by simp)).below hb
  obtain ⟨A, cap, rfl, _, _, hnil, _, hr⟩ := ho.form
  have hs : w.heap.size ≤ (w.alloc (.cells #[.int .u8 z] 5)).heap.size := by show _ ≤ (w.heap.push _).size; simp
  obtain ⟨v3, w3, hr3, o3, hb3, _⟩ := run_append_nums (P := Try.prog) (ty := 28) (xs := L) (cap := cap) Try.underlying28 hinfo1 (by decide) o1 hr hnil (by simp; omega) (Nat.le_trans hs hb.size)
  exact ⟨A, cap, v3, w3, rfl, hr3, o3, ((below_alloc w _).trans (hb.mono hs)).trans hb3⟩
theorem length_rle (n : Nat) (a : Int) : (le n a).reverse.length = n := by simp [length_le]
end Go.Proofs.Ytlipjaopbhdbeaa

/- Floats: what the laws meet: the document's examples, a NaN's and a number's own shortest form. -/
namespace Go.Proofs.Ytlipjaopbhdbeaa
open Go.RowKit
theorem nan_half : FNan 5 10 32256 := by unfold FNan fex ffr; decide
theorem sh_wd {x y v : Nat} (h : Shortest x y v) (hx : x < 2 ^ 64) : y < 2 ^ 64 ∧ Wd v y (if FNan 11 52 x then 9221120237041090560 else x) ∧ IsShort v y := by
  rcases h with ⟨h, rfl, rfl⟩ | ⟨h, a⟩
  · have e : Wd (2 : Nat) 32256 9221120237041090560 := Or.inl ⟨rfl, widen_nan (by decide) nan_half⟩
    rw [if_pos h]
    exact ⟨by decide, e, _, 2, e, sh_nan nan_wide, rfl⟩
  · rw [if_neg h]
    have key : Wd v y x → Shortest x y v → IsShort v y := fun e s => ⟨x, v, e, s, rfl⟩
    have hs : Shortest x y v := Or.inr ⟨h, a⟩
    rcases a with ⟨rfl, a⟩ | ⟨rfl, a, _⟩ | ⟨rfl, rfl, _, _⟩
    · have e : Wd (2 : Nat) y x := Or.inl ⟨rfl, a⟩
      exact ⟨by have := a.1; omega, e, key e hs⟩
    · have e : Wd (4 : Nat) y x := Or.inr (Or.inl ⟨rfl, a⟩)
      exact ⟨by have := a.1; omega, e, key e hs⟩
    · have e : Wd (8 : Nat) y y := Or.inr (Or.inr ⟨rfl, widen_self hx h⟩)
      exact ⟨hx, e, key e hs⟩
theorem one_short : Shortest 4607182418800017408 15360 2 := by
  refine Or.inr ⟨by unfold FNan fex ffr; decide, Or.inl ⟨rfl, ?_⟩⟩
  have := widen_normal (y := 15360) .half (by decide) (by unfold fex; decide) (by unfold fex; decide)
  have e : fsg 5 10 15360 * 2 ^ 63 + (fex 5 10 15360 + (1023 - (2 ^ (5 - 1) - 1))) * 2 ^ 52 + ffr 10 15360 * 2 ^ (52 - 10) = 4607182418800017408 := by unfold fsg fex ffr; decide
  rw [e] at this
  exact this
theorem tenth_nan : ¬ FNan 11 52 4591870180066957722 := by unfold FNan fex ffr; decide
theorem tenth_half (y : Nat) : ¬ Wide 5 10 1050 y 4591870180066957722 := by
  intro h
  have h1 := (wide_small .half (by decide) h tenth_nan).2.2 (by unfold fex; decide) (by unfold fex; decide)
  have e : fsg 11 52 4591870180066957722 * 2 ^ (5 + 10) + (fex 11 52 4591870180066957722 + (2 ^ (5 - 1) - 1) - 1023) * 2 ^ 10 + ffr 52 4591870180066957722 / 2 ^ (52 - 10) = 11878 := by unfold fsg fex ffr; decide
  rw [e] at h1
  rw [← h1] at h
  have h2 := widen_normal (y := 11878) .half (by decide) (by unfold fex; decide) (by unfold fex; decide)
  have := wide_fun .half h h2
  unfold fsg fex ffr at this
  revert this
  decide
theorem tenth_single (y : Nat) : ¬ Wide 8 23 925 y 4591870180066957722 := by
  intro h
  have h1 := (wide_small .single (by decide) h tenth_nan).2.2 (by unfold fex; decide) (by unfold fex; decide)
  have e : fsg 11 52 4591870180066957722 * 2 ^ (8 + 23) + (fex 11 52 4591870180066957722 + (2 ^ (8 - 1) - 1) - 1023) * 2 ^ 23 + ffr 52 4591870180066957722 / 2 ^ (52 - 23) = 1036831948 := by unfold fsg fex ffr; decide
  rw [e] at h1
  rw [← h1] at h
  have h2 := widen_normal (y := 1036831948) .single (by decide) (by unfold fex; decide) (by unfold fex; decide)
  have := wide_fun .single h h2
  unfold fsg fex ffr at this
  revert this
  decide
theorem tenth_short : Shortest 4591870180066957722 4591870180066957722 8 := Or.inr ⟨tenth_nan, Or.inr (Or.inr ⟨rfl, rfl, tenth_half, tenth_single⟩)⟩
end Go.Proofs.Ytlipjaopbhdbeaa

/- Package head: heads that are read again, plainly. -/
namespace Go.Proofs.Ytlipjaopbhdbeaa
open Go.RowKit

theorem le_cons' (n : Nat) (x : Int) : le (n + 1) x = x % 256 :: le n (x / 256) := by
  apply List.ext_getElem
  · simp [le]
  · intro i h1 h2
    rcases i with _ | i
    · simp [le]
    · simp only [le, List.getElem_map, List.getElem_range, List.getElem_cons_succ]
      rw [Int.pow_succ, Int.mul_comm, Int.ediv_ediv_of_nonneg (by decide)]
theorem big_le' (M : Int) : ∀ (n : Nat) (x : Int), 0 ≤ x → x < 256 ^ n → (256 : Int) ^ n ≤ M → big M (le n x).reverse = x
  | 0, x, h0, h1, _ => by
    simp at h1
    have : x = 0 := by omega
    subst this; rfl
  | n + 1, x, h0, h1, hM => by
    have hp : (0 : Int) < 256 ^ n := Int.pow_pos (by decide)
    rw [Int.pow_succ] at h1 hM
    rw [le_cons', List.reverse_cons, big_snoc, big_le' M n (x / 256) (by omega) (by omega) (by omega), Int.emod_eq_of_lt (by omega) (by omega)]
    omega
theorem le_big (M : Int) : ∀ (n : Nat) (l : List Int), ByteL l → l.length = n → (256 : Int) ^ n ≤ M → 0 ≤ big M l ∧ big M l < 256 ^ n ∧ (le n (big M l)).reverse = l
  | 0, l, _, hl, _ => by
    have : l = [] := List.length_eq_zero_iff.1 hl
    subst this
    exact ⟨by rw [big_nil]; decide, by rw [big_nil]; decide, rfl⟩
  | n + 1, l, hb, hl, hM => by
    have hp : (0 : Int) < 256 ^ n := Int.pow_pos (by decide)
    rcases List.eq_nil_or_concat l with rfl | ⟨a, c, rfl⟩
    · simp at hl
    · rw [List.concat_eq_append] at *
      have hla : a.length = n := by simpa using hl
      rw [Int.pow_succ] at hM
      obtain ⟨i0, i1, ie⟩ := le_big M n a (fun x hx => hb x (List.mem_append_left _ hx)) hla (by omega)
      have hc := hb c (by simp)
      have e : big M (a ++ [c]) = big M a * 256 + c := by rw [big_snoc, Int.emod_eq_of_lt (by omega) (by omega)]
      rw [e, Int.pow_succ]
      refine ⟨by omega, by omega, ?_⟩
      rw [le_cons', List.reverse_cons, show (big M a * 256 + c) / 256 = big M a by omega, show (big M a * 256 + c) % 256 = c by omega, ie]
theorem pad_cut (l : List Int) (n : Nat) (h : n ≤ l.length) : pad l n = l.take n := by
  apply List.ext_getElem
  · simp [pad, h]
  · intro i h1 h2
    have : i < n := by simpa [pad] using h1
    simp [pad, List.getD, show i < l.length by omega]
theorem hinf_of (i : Int) (a : Int) (h : 24 ≤ i) (h' : i < 28) : hinf (hwid i) a = i := by
  have : i = 24 ∨ i = 25 ∨ i = 26 ∨ i = 27 := by omega
  rcases this with rfl | rfl | rfl | rfl <;> rfl
/-- What of a head that is whole can be said. -/
theorem hread_ok {L : List Int} {r : HR} (hb : ByteL L) (hr : hread L = r) (he : r.e = 0) :
    0 ≤ r.major ∧ r.major ≤ 7 ∧ 0 ≤ r.arg ∧ r.arg < 18446744073709551616 ∧ r.place = -1 ∧ r.many = 1 + r.width ∧ 1 ≤ r.many ∧ r.many ≤ L.length ∧ (¬ (r.major = 7 ∧ 1 < r.width) → hputL r.major r.arg = L.take r.many.toNat) := by
  by_cases h0 : L.length = 0
  · rw [hread_nil h0] at hr
    subst hr
    cases he
  have hc := hb.get 0
  by_cases h28 : 28 ≤ L.getD 0 0 % 32
  · rw [hread_bad (by omega) h28] at hr
    subst hr
    have h1 := hbad_ne (m := L.getD 0 0 / 32) h28
    have he : hbad (L.getD 0 0 / 32) (L.getD 0 0 % 32) = 0 := he
    omega
  have hL1 : L.take 1 = [L.getD 0 0] := by
    have := take_snoc L 0 (by omega)
    simpa using this
  by_cases h24 : L.getD 0 0 % 32 < 24
  · rw [hread_small (by omega) h24] at hr
    subst hr
    dsimp only
    refine ⟨by omega, by omega, by omega, by omega, rfl, by decide, by decide, by omega, fun _ => ?_⟩
    show hputL _ _ = L.take 1
    unfold hputL
    rw [if_neg (by omega), leastW_small h24, hL1]
    show [L.getD 0 0 / 32 * 32 + L.getD 0 0 % 32] = _
    congr 1
    omega
  by_cases hcut : (L.length : Int) ≤ hwid (L.getD 0 0 % 32)
  · rw [hread_cut (by omega) (by omega) (by omega) hcut] at hr
    subst hr
    cases he
  by_cases hs : L.getD 0 0 / 32 = 7 ∧ hwid (L.getD 0 0 % 32) = 1 ∧ harg L (hwid (L.getD 0 0 % 32)) < 32
  · rw [hread_simple (by omega) (by omega) (by omega) hcut hs] at hr
    subst hr
    cases he
  rw [hread_whole (by omega) (by omega) (by omega) hcut hs] at hr
  have hinf := fun a => hinf_of (L.getD 0 0 % 32) a (by omega) (by omega)
  have hW : hwid (L.getD 0 0 % 32) = 1 ∨ hwid (L.getD 0 0 % 32) = 2 ∨ hwid (L.getD 0 0 % 32) = 4 ∨ hwid (L.getD 0 0 % 32) = 8 := by
    rcases hwid_of (L.getD 0 0 % 32) (by omega) (by omega) with ⟨_, h⟩ | ⟨_, h⟩ | ⟨_, h⟩ | ⟨_, h⟩ <;> omega
  have hpow : (256 : Int) ^ (hwid (L.getD 0 0 % 32)).toNat ≤ 18446744073709551616 := by
    rcases hW with h | h | h | h <;> rw [h] <;> decide
  have hlen : ((L.drop 1).take (hwid (L.getD 0 0 % 32)).toNat).length = (hwid (L.getD 0 0 % 32)).toNat := by
    rw [List.length_take, List.length_drop]; omega
  have hbt : ByteL ((L.drop 1).take (hwid (L.getD 0 0 % 32)).toNat) := fun c hc => hb c (List.mem_of_mem_drop (List.mem_of_mem_take hc))
  have hbig := le_big 18446744073709551616 _ _ hbt hlen hpow
  have harg' : harg L (hwid (L.getD 0 0 % 32)) = big 18446744073709551616 ((L.drop 1).take (hwid (L.getD 0 0 % 32)).toNat) := by
    unfold harg
    rw [pad_cut _ _ (by rw [List.length_drop]; omega)]
  rw [← harg'] at hbig
  have htk : L.take (1 + (hwid (L.getD 0 0 % 32)).toNat) = L.getD 0 0 :: (L.drop 1).take (hwid (L.getD 0 0 % 32)).toNat := by
    rw [List.take_add, hL1]; rfl
  rw [← hbig.2.2] at htk
  generalize hwid (L.getD 0 0 % 32) = W at *
  generalize harg L W = a at *
  unfold hlong at hr
  cases hsh : hshort (L.getD 0 0 / 32) W a with
  | false =>
    rw [hsh] at hr
    subst hr
    cases he
  | true =>
    rw [hsh] at hr
    subst hr
    dsimp only
    have h256 := hbig.2.1
    have hlt : a < 18446744073709551616 := by omega
    refine ⟨by omega, by omega, hbig.1, hlt, rfl, rfl, by omega, by omega, fun hm => ?_⟩
    have hle : W = leastW a := by
      unfold hshort at hsh
      rw [if_neg hm] at hsh
      exact of_decide_eq_true hsh
    have h24a : 24 ≤ a := by
      have := hle
      unfold leastW at this
      (repeat' split at this) <;> omega
    have hw7 : L.getD 0 0 / 32 = 7 → W = 1 := fun h => by omega
    have h255 : W = 1 → a ≤ 255 := fun h => by
      subst h
      have h256 : a < 256 := h256
      omega
    unfold hputL
    rw [if_neg (fun h => by
      have := hw7 h.1
      have := h255 this
      have := fun h' => hs ⟨h.1, ‹W = 1›, h'⟩
      omega), ← hle]
    rw [show (1 + W).toNat = 1 + W.toNat by omega, htk]
    unfold hlay
    rw [hinf]
    congr 1
    omega
end Go.Proofs.Ytlipjaopbhdbeaa
