/- Plain lists: the first k of one and the rest of another; filled up; bytes. -/
import Derived.Test.YtgcgidoikpbfpaaKAK
import Derived.Test.YtgcgidoikpbfpaaKAB
import Derived.StillTail
import Derived.Deep.QuietTactic
import Derived.Still
namespace Go.Proofs.Ytgcgidoikpbfpaa
open Go.RowKit

/-- The first k of l, the rest of m. -/
def upto (l m : List Int) (k : Nat) : List Int := l.take k ++ m.drop k
theorem upto_zero (l m : List Int) : upto l m 0 = m := by simp [upto]
theorem upto_all (l m : List Int) (h : l.length = m.length) : upto l m m.length = l := by simp [upto, ← h]
theorem length_upto (l m : List Int) (k : Nat) (h : l.length = m.length) : (upto l m k).length = m.length := by simp [upto]; omega
theorem upto_set (l m : List Int) (k : Nat) (h : l.length = m.length) (hk : k < m.length) : (upto l m k).set k (l.getD k 0) = upto l m (k + 1) := by
  unfold upto
  rw [List.set_append_right _ _ (by simp [List.length_take]; omega), List.length_take, show k - min k l.length = 0 by omega, List.drop_eq_getElem_cons hk, List.set_cons_zero, take_snoc l k (by omega), List.append_assoc]
  rfl
theorem getD_upto_ge (l m : List Int) (k i : Nat) (h : l.length = m.length) (hi : k ≤ i) (hk : k ≤ m.length) : (upto l m k).getD i 0 = m.getD i 0 := by
  simp only [upto, List.getD_eq_getElem?_getD, List.getElem?_append, List.length_take, List.getElem?_drop]
  rw [if_neg (by omega), show k + (i - min k l.length) = i by omega]
theorem getD_upto_lt (l m : List Int) (k i : Nat) (hi : i < k) (hk : k ≤ l.length) : (upto l m k).getD i 0 = l.getD i 0 := by
  simp only [upto, List.getD_eq_getElem?_getD, List.getElem?_append, List.length_take, List.getElem?_take]
  rw [if_pos (by omega), if_pos hi]
theorem pad_set (l : List Int) (n : Nat) (x : Int) (_h : l.length < n) : (pad l n).set l.length x = pad (l ++ [x]) n := by
  apply List.ext_getElem
  · simp [length_pad]
  · intro i h1 h2
    simp only [List.length_set, length_pad] at h1
    simp only [List.getElem_set, pad, List.getElem_map, List.getElem_range, List.getD_eq_getElem?_getD]
    by_cases e : l.length = i
    · rw [if_pos e]; subst e; simp
    · rw [if_neg e]
      by_cases e2 : i < l.length
      · rw [List.getElem?_append_left e2]
      · rw [List.getElem?_eq_none (by omega), List.getElem?_eq_none (by simp; omega)]
theorem getD_pad (l : List Int) (n i : Nat) (h : i < n) : (pad l n).getD i 0 = l.getD i 0 := by
  simp [pad, List.getD_eq_getElem?_getD, h]
theorem byte_drop {l : List Int} (h : ByteL l) (n : Nat) : ByteL (l.drop n) := fun c hc => h c (List.mem_of_mem_drop hc)
theorem byte_pad' {l : List Int} (h : ByteL l) (n : Nat) : ByteL (pad l n) := h.pad n
theorem byte_append {a b : List Int} (ha : ByteL a) (hb : ByteL b) : ByteL (a ++ b) := fun c hc => by
  rcases List.mem_append.1 hc with h | h
  · exact ha c h
  · exact hb c h
theorem byte_take {l : List Int} (h : ByteL l) (n : Nat) : ByteL (l.take n) := fun c hc => h c (List.mem_of_mem_take hc)
/-- What copy lays into the block. -/
theorem pad_copy (n : Nat) (r m : List Int) (h : r.length + m.length ≤ n) : (pad r n).take r.length ++ m ++ (pad r n).drop (r.length + m.length) = pad (r ++ m) n := by
  apply List.ext_getElem?
  intro i
  have e : ∀ (a : List Int) (j : Nat), (pad a n)[j]? = if j < n then some (a.getD j 0) else none := fun a j => by
    by_cases hj : j < n
    · rw [if_pos hj]; simp [pad, hj]
    · rw [if_neg hj]; exact List.getElem?_eq_none (by rw [length_pad]; omega)
  simp only [List.getElem?_append, List.length_append, List.length_take, length_pad, List.getElem?_take, List.getElem?_drop, e, List.getD_eq_getElem?_getD]
  by_cases h1 : i < r.length
  · rw [if_pos (by omega), if_pos (by omega), if_pos h1, if_pos (by omega), if_pos (by omega), if_pos h1]
  · by_cases h2 : i < r.length + m.length
    · rw [if_pos (by omega), if_neg (by omega), if_pos (by omega), if_neg h1, show min r.length n = r.length by omega]
      rw [List.getElem?_eq_getElem (by omega)]
      simp
    · rw [if_neg (by omega), if_neg h1, show r.length + m.length + (i - (min r.length n + m.length)) = i by omega]
      by_cases h3 : i < n
      · rw [if_pos h3, if_pos h3, List.getElem?_eq_none (by omega), List.getElem?_eq_none (by omega)]
      · rw [if_neg h3, if_neg h3]
theorem cell_same {w w' : World} (b o : Nat) (h : w'.heap[b]? = w.heap[b]?) : w'.cell? ⟨b, o, none⟩ = w.cell? ⟨b, o, none⟩ := by
  simp [World.cell?, h]
def sliceLen : Value → Nat
  | .slice _ n _ => n
  | _ => 0

theorem info5 : (Try.prog.info? 5).map (fun i => (i.zero, i.size, i.bytes)) = some (some (.int .u8 0), 1, 1) := by kernel_rfl
theorem made_zeros (n : Nat) : madeCells #[Value.int .u8 0] n = nums .u8 (List.replicate n 0) := by
  apply Array.ext
  · simp [size_madeCells, nums]
  · intro i h1 h2
    simp [madeCells, nums, Nat.mod_one]
end Go.Proofs.Ytgcgidoikpbfpaa

/- A slice of the call's own at a known block: one of its numbers is read, is written. -/
namespace Go.Proofs.Ytgcgidoikpbfpaa
open Go.RowKit

section
variable {w w' : World} {B g n cap : Nat} {k : IntKind} {e : TypeId} {zs : List Int}
theorem Own.at (h : Own w B k e (.slice (some ⟨g, 0, none⟩) n cap) zs) {j : Nat} (hj : j < zs.length) : w.cell? ⟨g, j, none⟩ = some (.int k (zs.getD j 0)) ∧ w.frozen? ⟨g, j, none⟩ = false := by
  obtain ⟨g', cap', hv, _, h1, h2, _⟩ := h.put hj 0
  injection hv with e1 e2 e3
  injection e1 with e1
  injection e1 with e1
  subst e1
  exact ⟨h1, h2⟩
theorem Own.set (h : Own w B k e (.slice (some ⟨g, 0, none⟩) n cap) zs) {j : Nat} (hj : j < zs.length) (x : Int) : Own (w.setCell ⟨g, j, none⟩ (.int k x)) B k e (.slice (some ⟨g, 0, none⟩) n cap) (zs.set j x) := by
  obtain ⟨g', cap', hv, _, _, _, h3, _⟩ := h.put hj x
  injection hv with e1 e2 e3
  injection e1 with e1
  injection e1 with e1
  subst e1
  exact h3
theorem Own.ge (h : Own w B k e (.slice (some ⟨g, 0, none⟩) n cap) zs) : B ≤ g := by
  obtain ⟨A, cap', hv, _, _, _, hb, _⟩ := h.form
  injection hv with e1 e2 e3
  obtain ⟨b, hp, hB⟩ := hb _ e1.symm
  injection hp with e1
  omega
theorem Own.lt (h : Own w B k e (.slice (some ⟨g, 0, none⟩) n cap) zs) (hn : 0 < zs.length) : g < w.heap.size := block_lt_of_cell (h.at hn).1
theorem Own.len (h : Own w B k e (.slice (some ⟨g, 0, none⟩) n cap) zs) : n = zs.length := by
  obtain ⟨A, cap', hv, _, _, _, _, _⟩ := h.form
  injection hv
/-- Its block. -/
theorem Own.head {v : Value} (h : Own w B k e v zs) (hn : 0 < zs.length) : ∃ g cap, v = .slice (some ⟨g, 0, none⟩) zs.length cap := by
  obtain ⟨g, cap, hv, _⟩ := h.put hn 0
  exact ⟨g, cap, hv⟩
end
end Go.Proofs.Ytgcgidoikpbfpaa

/- A region that draws its order: first operations that only read, and calls that only read and draw, in any order; then the others, one by one. One walk in the order of the text serves every order. -/
namespace Go.Proofs.Ytgcgidoikpbfpaa
open Go

section
variable {P : Program} {ops : Array Oper} {md : Region.Mode} {C : World → Prop}

/-- f operations come up, all ahead of number n, whatever their order; then L holds. -/
def headQ (P : Program) (md : Region.Mode) (ops : Array Oper) (C : World → Prop) (n : Nat) (L : Array Bool → Act → Prop) : Nat → Array Bool → Act → Prop
  | 0, seen, a => L seen a
  | f + 1, seen, a => Region.ready md ops seen ≠ [] ∧ ∀ i, i ∈ Region.ready md ops seen → i < n ∧ qOp P ops C i (fun b => headQ P md ops C n L f (seen.setIfInBounds i true) b) a

theorem any_of_headQ {n g : Nat} {L : Array Bool → Act → Prop} {R : Exit → Act → World → Prop} (hL : ∀ seen a w, C w → L seen a → wpAny P md ops R g seen a w) (f : Nat) :
    ∀ (seen : Array Bool) (a : Act) (w : World), C w → headQ P md ops C n L f seen a → wpAny P md ops R (f + g) seen a w := by
  induction f with
  | zero => intro seen a w hw h; rw [Nat.zero_add]; exact hL _ _ _ hw h
  | succ f ih =>
    intro seen a w hw h
    rw [Nat.add_right_comm]
    refine ⟨fun e => (h.1 e).elim, fun i hi => ?_⟩
    exact wpOp_of_qOp hw (fun b w' hw' hb => ih _ b w' hw' hb) (h.2 i hi).2

/-- The next operation of the text may come first. -/
theorem headQ_first {n i : Nat} {oi : Oper} {v : Value} {L : Array Bool → Act → Prop} (hi : ops[i]? = some oi) (hsel : ∀ (j : Nat) (o : Oper) cs b, ops[j]? = some o → o.op ≠ .select cs b)
    (hs : Region.sinkB md ops n = true) (hc : Region.chainB md ops n = true) (hn : n < ops.size) (hin : i < n) (hend : ∀ seen a, L seen a → ∀ j, j ∈ Region.ready md ops seen → n ≤ j) (f : Nat) :
    ∀ (seen : Array Bool) (a : Act), HeadInv md ops n seen → (∀ j oj, ops[j]? = some oj → j ≠ i → seen.getD j true = false → (∀ e ∈ oj.after, Region.binds md e = true → e.on ≠ i) → oi.apart ops oj = true) →
      i ∈ Region.ready md ops seen → YieldsIn P ops C oi v a → headQ P md ops C n L f (seen.setIfInBounds i true) (a.put oi.dst v) → headQ P md ops C n L (f + 1) seen a := by
  induction f with
  | zero =>
    intro seen a inv _ hr hy H
    refine ⟨List.ne_nil_of_mem hr, fun j hj => ?_⟩
    have hjn : j < n := Nat.lt_of_not_le fun hle => tail_waits hs hc hn inv _ i rfl hin (mem_ready.1 hr).1 j hle hj
    refine ⟨hjn, ?_⟩
    rcases Decidable.em (j = i) with e | e
    · rw [e]; exact hy.qOp hi H
    · exact absurd (hend _ _ H j (ready_mono hj e)) (Nat.not_le_of_lt hjn)
  | succ f ih =>
    intro seen a inv hfree hr hy H
    have hun := (mem_ready.1 hr).1
    refine ⟨List.ne_nil_of_mem hr, fun j hj => ?_⟩
    have hjn : j < n := Nat.lt_of_not_le fun hle => tail_waits hs hc hn inv _ i rfl hin hun j hle hj
    refine ⟨hjn, ?_⟩
    rcases Decidable.em (j = i) with e | e
    · rw [e]; exact hy.qOp hi H
    obtain ⟨hju, oj, hoj, hall⟩ := mem_ready.1 hj
    have hno : ∀ x ∈ oj.after, Region.binds md x = true → x.on ≠ i := fun x hx hb he => by
      have := hall x hx hb
      rw [he, getD_both hun] at this
      exact Bool.noConfusion this
    have h1 := (H.2 j (ready_mono hj e)).2
    have h2 := qOp_put hoj (hfree j oj hoj e hju hno) (fun cs b => hsel i oi cs b hi) (fun cs b => hsel j oj cs b hoj) hy h1
    refine qOp_mono (fun b hb => ?_) h2
    refine ih _ b (inv.set hj hjn) (fun k ok hk hki hku hkn => ?_) (ready_mono hr (Ne.symm e)) hb.1 ?_
    · refine hfree k ok hk hki ?_ hkn
      rcases Decidable.em (j = k) with ejk | ejk
      · rw [← ejk]; exact hju
      · rwa [getD_set_ne true ejk] at hku
    · rw [Array.setIfInBounds_comm _ _ e]
      exact hb.2

theorem headQ_lex {n g : Nat} {K : Act → Prop} (hsel : Region.noSelect ops = true) (hs : Region.sinkB md ops n = true) (hc : Region.chainB md ops n = true) (hn : n < ops.size) (l : List Oper) :
    ∀ (k : Nat) (seen : Array Bool) (a : Act), (∀ j, j < l.length → l[j]? = ops[k + j]?) → k + l.length = n → HeadInv md ops n seen → Region.lexHead md ops g l.length k seen = true → wpQuiet P ops C K l a →
      headQ P md ops C n (fun s b => Region.seqB md ops g n s = true ∧ K b) l.length seen a := by
  induction l with
  | nil =>
    intro k seen a _ hk _ hB h
    obtain rfl : k = n := hk
    exact ⟨hB, h⟩
  | cons o l ih =>
    intro k seen a hl hk inv hB h
    have h0 : ops[k]? = some o := (hl 0 (Nat.succ_pos _)).symm
    rw [List.length_cons] at hk
    simp only [List.length_cons, Region.lexHead, Bool.and_eq_true, List.contains_iff_mem] at hB
    have hkn : k < n := by omega
    have hq : qOp P ops C k (wpQuiet P ops C K l) a := by unfold qOp; rw [h0]; exact h
    obtain ⟨v, hy, hK⟩ := yieldsIn_of_qOp h0 hq
    refine headQ_first h0 (Region.noSelect_spec hsel) hs hc hn hkn (fun s b hL => seqB_ready hL.1) l.length seen a inv (Region.free_spec h0 hB.1.2) hB.1.1 hy ?_
    refine ih (k + 1) _ _ (fun j hj => ?_) (by omega) (inv.set hB.1.1 hkn) hB.2 hK
    have := hl (j + 1) (by simpa using hj)
    rw [show k + 1 + j = k + (j + 1) by omega, ← this]
    rfl

/-- The region: its first n operations quiet, the others behind them in the order of the text. -/
theorem wp_region_quiet_tail {id : Nat} {Q : Exit → Act → World → Prop} {a : Act} {w : World} {l : List Oper} (n : Nat) (hm : P.follows .mixedOrders = true) (hB : Region.lexTailB .any l.toArray n = true)
    (h : wpQuiet P l.toArray (fun w' => ∃ d, w' = w.drewN d) (fun b => ∀ w', (∃ d, w' = w.drewN d) → wpList P l.toArray Q (l.drop n) b w') (l.take n) a) : (Code.region id l.toArray true).wp P Q a w := by
  simp only [Region.lexTailB, Bool.and_eq_true, decide_eq_true_eq] at hB
  obtain ⟨⟨⟨⟨hsel, hn⟩, hs⟩, hc⟩, hlex⟩ := hB
  have hn' : n < l.length := hn
  have htl : (l.take n).length = n := by rw [List.length_take]; omega
  have hsz : l.toArray.size - n = (l.drop n).length := by rw [List.length_drop]; rfl
  rw [hsz] at hlex
  have inv0 : HeadInv .any l.toArray n (Array.replicate l.toArray.size false) :=
    ⟨Array.size_replicate, fun j _ _ hj => (by rw [getD_replicate_false] at hj; exact Bool.noConfusion hj), fun t _ ht => getD_in (by rw [Array.size_replicate]; exact ht) (getD_replicate_false _ _)⟩
  have H := headQ_lex (md := .any) hsel hs hc hn (l.take n) 0 _ a (fun j hj => by rw [htl] at hj; simp [hj]) (by omega) inv0 (by rw [htl]; exact hlex) h
  have H2 := any_of_headQ (R := Q) (g := (l.drop n).length) (fun s b w' hw' hL => wpAny_of_seq (l.drop n) n s b w' (fun j => by simp [List.getElem?_drop]) hL.1 (hL.2 w' hw')) _ _ _ { w with drawn := w.drawn + 1 } ⟨1, rfl⟩ H
  refine wp_region_any hm ?_
  rw [htl, ← hsz, show n + (l.toArray.size - n) = l.toArray.size by have : l.toArray.size = l.length := rfl; omega] at H2
  exact H2
end
end Go.Proofs.Ytgcgidoikpbfpaa
