/- Plain lists: the first k of one and the rest of another; filled up; bytes. -/
import Derived.Test.YtgbbgdjdomkohaaGreatKAJ
import Derived.Test.YtgbbgdjdomkohaaGreatKAB
import Derived.StillTail
import Derived.Deep.QuietTactic
import Derived.Still
import Derived.Test.YtgbbgdjdomkohaaGreatKAH
import Derived.Test.YtgbbgdjdomkohaaGreatKAC
namespace Go.Proofs.YtgbbgdjdomkohaaGreat
open Go.RowKit

/-- The first k of l, the rest of m. -/
def upto (l m : List Int) (k : Nat) : List Int := l.take k ++ m.drop k
theorem upto_zero (l m : List Int) : upto l m 0 = m := by simp [upto]
theorem upto_all (l m : List Int) (h : l.length = m.length) : upto l m m.length = l := by simp [upto, ← h]
theorem length_upto (l m : List Int) (k : Nat) (h : l.length = m.length) : (upto l m k).length = m.length := by simp [upto]; omega
theorem upto_set (l m : List Int) (k : Nat) (h : l.length = m.length) (hk : k < m.length) : (upto l m k).set k (l.getD k 0) = upto l m (k + 1) := by
  unfold upto
  rw [List.set_append_right _ _ (by simp [List.length_take]; omega), List.length_take, show k - min k l.length = 0 by omega, List.drop_eq_getElem_cons hk, List.set_cons_zero, take_snoc l k (by omega), List.append_assoc]
  rfl
theorem getD_upto_ge (l m : List Int) (k i : Nat) (h : l.length = m.length) (hi : k ≤ i) (hk : k ≤ m.length) : (upto l m k).getD i 0 = m.getD i 0 := by
  simp only [upto, List.getD_eq_getElem?_getD, List.getElem?_append, List.length_take, List.getElem?_drop]
  rw [if_neg (by omega), show k + (i - min k l.length) = i by omega]
theorem getD_upto_lt (l m : List Int) (k i : Nat) (hi : i < k) (hk : k ≤ l.length) : (upto l m k).getD i 0 = l.getD i 0 := by
  simp only [upto, List.getD_eq_getElem?_getD, List.getElem?_append, List.length_take, List.getElem?_take]
  rw [if_pos (by omega), if_pos hi]
theorem pad_set (l : List Int) (n : Nat) (x : Int) (_h : l.length < n) : (pad l n).set l.length x = pad (l ++ [x]) n := by
  apply List.ext_getElem
  · simp [length_pad]
  · intro i h1 h2
    simp only [List.length_set, length_pad] at h1
    simp only [List.getElem_set, pad, List.getElem_map, List.getElem_range, List.getD_eq_getElem?_getD]
    by_cases e : l.length = i
    · rw [if_pos e]; subst e; simp
    · rw [if_neg e]
      by_cases e2 : i < l.length
      · rw [List.getElem?_append_left e2]
      · rw [List.getElem?_eq_none (by omega), List.getElem?_eq_none (by simp; omega)]
theorem getD_pad (l : List Int) (n i : Nat) (h : i < n) : (pad l n).getD i 0 = l.getD i 0 := by
  simp [pad, List.getD_eq_getElem?_getD, h]
theorem byte_drop {l : List Int} (h : ByteL l) (n : Nat) : ByteL (l.drop n) := fun c hc => h c (List.mem_of_mem_drop hc)
theorem byte_pad' {l : List Int} (h : ByteL l) (n : Nat) : ByteL (pad l n) := h.pad n
theorem byte_append {a b : List Int} (ha : ByteL a) (hb : ByteL b) : ByteL (a ++ b) := fun c hc => by
  rcases List.mem_append.1 hc with h | h
  · exact ha c h
  · exact hb c h
theorem byte_take {l : List Int} (h : ByteL l) (n : Nat) : ByteL (l.take n) := fun c hc => h c (List.mem_of_mem_take hc)
/-- What copy lays into the block. -/
theorem pad_copy (n : Nat) (r m : List Int) (h : r.length + m.length ≤ n) : (pad r n).take r.length ++ m ++ (pad r n).drop (r.length + m.length) = pad (r ++ m) n := by
  apply List.ext_getElem?
  intro i
  have e : ∀ (a : List Int) (j : Nat), (pad a n)[j]? = if j < n then some (a.getD j 0) else none := fun a j => by
    by_cases hj : j < n
    · rw [if_pos hj]; simp [pad, hj]
    · rw [if_neg hj]; exact List.getElem?_eq_none (by rw [length_pad]; omega)
  simp only [List.getElem?_append, List.length_append, List.length_take, length_pad, List.getElem?_take, List.getElem?_drop, e, List.getD_eq_getElem?_getD]
  by_cases h1 : i < r.length
  · rw [if_pos (by omega), if_pos (by omega), if_pos h1, if_pos (by omega), if_pos (by omega), if_pos h1]
  · by_cases h2 : i < r.length + m.length
    · rw [if_pos (by omega), if_neg (by omega), if_pos (by omega), if_neg h1, show min r.length n = r.length by omega]
      rw [List.getElem?_eq_getElem (by omega)]
      simp
    · rw [if_neg (by omega), if_neg h1, show r.length + m.length + (i - (min r.length n + m.length)) = i by omega]
      by_cases h3 : i < n
      · rw [if_pos h3, if_pos h3, List.getElem?_eq_none (by omega), List.getElem?_eq_none (by omega)]
      · rw [if_neg h3, if_neg h3]
theorem cell_same {w w' : World} (b o : Nat) (h : w'.heap[b]? = w.heap[b]?) : w'.cell? ⟨b, o, none⟩ = w.cell? ⟨b, o, none⟩ := by
  simp [World.cell?, h]
def sliceLen : Value → Nat
  | .slice _ n _ => n
  | _ => 0

theorem info5 : (Tryz.prog.info? 5).map (fun i => (i.zero, i.size, i.bytes)) = some (some (.int .u8 0), 1, 1) := by kernel_rfl
theorem made_zeros (n : Nat) : madeCells #[Value.int .u8 0] n = nums .u8 (List.replicate n 0) := by
  apply Array.ext
  · simp [size_madeCells, nums]
  · intro i h1 h2
    simp [madeCells, nums, Nat.mod_one]
end Go.Proofs.YtgbbgdjdomkohaaGreat

/- A slice of the call's own at a known block: one of its numbers is read, is written. -/
namespace Go.Proofs.YtgbbgdjdomkohaaGreat
open Go.RowKit

section
variable {w w' : World} {B g n cap : Nat} {k : IntKind} {e : TypeId} {zs : List Int}
theorem Own.at (h : Own w B k e (.slice (some ⟨g, 0, none⟩) n cap) zs) {j : Nat} (hj : j < zs.length) : w.cell? ⟨g, j, none⟩ = some (.int k (zs.getD j 0)) ∧ w.frozen? ⟨g, j, none⟩ = false := by
  obtain ⟨g', cap', hv, _, h1, h2, _⟩ := h.put hj 0
  injection hv with e1 e2 e3
  injection e1 with e1
  injection e1 with e1
  subst e1
  exact ⟨h1, h2⟩
theorem Own.set (h : Own w B k e (.slice (some ⟨g, 0, none⟩) n cap) zs) {j : Nat} (hj : j < zs.length) (x : Int) : Own (w.setCell ⟨g, j, none⟩ (.int k x)) B k e (.slice (some ⟨g, 0, none⟩) n cap) (zs.set j x) := by
  obtain ⟨g', cap', hv, _, _, _, h3, _⟩ := h.put hj x
  injection hv with e1 e2 e3
  injection e1 with e1
  injection e1 with e1
  subst e1
  exact h3
theorem Own.ge (h : Own w B k e (.slice (some ⟨g, 0, none⟩) n cap) zs) : B ≤ g := by
  obtain ⟨A, cap', hv, _, _, _, hb, _⟩ := h.form
  injection hv with e1 e2 e3
  obtain ⟨b, hp, hB⟩ := hb _ e1.symm
  injection hp with e1
  omega
theorem Own.lt (h : Own w B k e (.slice (some ⟨g, 0, none⟩) n cap) zs) (hn : 0 < zs.length) : g < w.heap.size := block_lt_of_cell (h.at hn).1
theorem Own.len (h : Own w B k e (.slice (some ⟨g, 0, none⟩) n cap) zs) : n = zs.length := by
  obtain ⟨A, cap', hv, _, _, _, _, _⟩ := h.form
  injection hv
/-- Its block. -/
theorem Own.head {v : Value} (h : Own w B k e v zs) (hn : 0 < zs.length) : ∃ g cap, v = .slice (some ⟨g, 0, none⟩) zs.length cap := by
  obtain ⟨g, cap, hv, _⟩ := h.put hn 0
  exact ⟨g, cap, hv⟩
end
end Go.Proofs.YtgbbgdjdomkohaaGreat

/- A region that draws its order: first operations that only read, and calls that only read and draw, in any order; then the others, one by one. One walk in the order of the text serves every order. -/
namespace Go.Proofs.YtgbbgdjdomkohaaGreat
open Go

section
variable {P : Program} {ops : Array Oper} {md : Region.Mode} {C : World → Prop}

/-- f operations come up, all ahead of number n, whatever their order; then L holds. -/
def headQ (P : Program) (md : Region.Mode) (ops : Array Oper) (C : World → Prop) (n : Nat) (L : Array Bool → Act → Prop) : Nat → Array Bool → Act → Prop
  | 0, seen, a => L seen a
  | f + 1, seen, a => Region.ready md ops seen ≠ [] ∧ ∀ i, i ∈ Region.ready md ops seen → i < n ∧ qOp P ops C i (fun b => headQ P md ops C n L f (seen.setIfInBounds i true) b) a

theorem any_of_headQ {n g : Nat} {L : Array Bool → Act → Prop} {R : Exit → Act → World → Prop} (hL : ∀ seen a w, C w → L seen a → wpAny P md ops R g seen a w) (f : Nat) :
    ∀ (seen : Array Bool) (a : Act) (w : World), C w → headQ P md ops C n L f seen a → wpAny P md ops R (f + g) seen a w := by
  induction f with
  | zero => intro seen a w hw h; rw [Nat.zero_add]; exact hL _ _ _ hw h
  | succ f ih =>
    intro seen a w hw h
    rw [Nat.add_right_comm]
    refine ⟨fun e => (h.1 e).elim, fun i hi => ?_⟩
    exact wpOp_of_qOp hw (fun b w' hw' hb => ih _ b w' hw' hb) (h.2 i hi).2

/-- The next operation of the text may come first. -/
theorem headQ_first {n i : Nat} {oi : Oper} {v : Value} {L : Array Bool → Act → Prop} (hi : ops[i]? = some oi) (hsel : ∀ (j : Nat) (o : Oper) cs b, ops[j]? = some o → o.op ≠ .select cs b)
    (hs : Region.sinkB md ops n = true) (hc : Region.chainB md ops n = true) (hn : n < ops.size) (hin : i < n) (hend : ∀ seen a, L seen a → ∀ j, j ∈ Region.ready md ops seen → n ≤ j) (f : Nat) :
    ∀ (seen : Array Bool) (a : Act), HeadInv md ops n seen → (∀ j oj, ops[j]? = some oj → j ≠ i → seen.getD j true = false → (∀ e ∈ oj.after, Region.binds md e = true → e.on ≠ i) → oi.apart ops oj = true) →
      i ∈ Region.ready md ops seen → YieldsIn P ops C oi v a → headQ P md ops C n L f (seen.setIfInBounds i true) (a.put oi.dst v) → headQ P md ops C n L (f + 1) seen a := by
  induction f with
  | zero =>
    intro seen a inv _ hr hy H
    refine ⟨List.ne_nil_of_mem hr, fun j hj => ?_⟩
    have hjn : j < n := Nat.lt_of_not_le fun hle => tail_waits hs hc hn inv _ i rfl hin (mem_ready.1 hr).1 j hle hj
    refine ⟨hjn, ?_⟩
    rcases Decidable.em (j = i) with e | e
    · rw [e]; exact hy.qOp hi H
    · exact absurd (hend _ _ H j (ready_mono hj e)) (Nat.not_le_of_lt hjn)
  | succ f ih =>
    intro seen a inv hfree hr hy H
    have hun := (mem_ready.1 hr).1
    refine ⟨List.ne_nil_of_mem hr, fun j hj => ?_⟩
    have hjn : j < n := Nat.lt_of_not_le fun hle => tail_waits hs hc hn inv _ i rfl hin hun j hle hj
    refine ⟨hjn, ?_⟩
    rcases Decidable.em (j = i) with e | e
    · rw [e]; exact hy.qOp hi H
    obtain ⟨hju, oj, hoj, hall⟩ := mem_ready.1 hj
    have hno : ∀ x ∈ oj.after, Region.binds md x = true → x.on ≠ i := fun x hx hb he => by
      have := hall x hx hb
      rw [he, getD_both hun] at this
      exact Bool.noConfusion this
    have h1 := (H.2 j (ready_mono hj e)).2
    have h2 := qOp_put hoj (hfree j oj hoj e hju hno) (fun cs b => hsel i oi cs b hi) (fun cs b => hsel j oj cs b hoj) hy h1
    refine qOp_mono (fun b hb => ?_) h2
    refine ih _ b (inv.set hj hjn) (fun k ok hk hki hku hkn => ?_) (ready_mono hr (Ne.symm e)) hb.1 ?_
    · refine hfree k ok hk hki ?_ hkn
      rcases Decidable.em (j = k) with ejk | ejk
      · rw [← ejk]; exact hju
      · rwa [getD_set_ne true ejk] at hku
    · rw [Array.setIfInBounds_comm _ _ e]
      exact hb.2

theorem headQ_lex {n g : Nat} {K : Act → Prop} (hsel : Region.noSelect ops = true) (hs : Region.sinkB md ops n = true) (hc : Region.chainB md ops n = true) (hn : n < ops.size) (l : List Oper) :
    ∀ (k : Nat) (seen : Array Bool) (a : Act), (∀ j, j < l.length → l[j]? = ops[k + j]?) → k + l.length = n → HeadInv md ops n seen → Region.lexHead md ops g l.length k seen = true → wpQuiet P ops C K l a →
      headQ P md ops C n (fun s b => Region.seqB md ops g n s = true ∧ K b) l.length seen a := by
  induction l with
  | nil =>
    intro k seen a _ hk _ hB h
    obtain rfl : k = n := hk
    exact ⟨hB, h⟩
  | cons o l ih =>
    intro k seen a hl hk inv hB h
    have h0 : ops[k]? = some o := (hl 0 (Nat.succ_pos _)).symm
    rw [List.length_cons] at hk
    simp only [List.length_cons, Region.lexHead, Bool.and_eq_true, List.contains_iff_mem] at hB
    have hkn : k < n := by omega
    have hq : qOp P ops C k (wpQuiet P ops C K l) a := by unfold qOp; rw [h0]; exact h
    obtain ⟨v, hy, hK⟩ := yieldsIn_of_qOp h0 hq
    refine headQ_first h0 (Region.noSelect_spec hsel) hs hc hn hkn (fun s b hL => seqB_ready hL.1) l.length seen a inv (Region.free_spec h0 hB.1.2) hB.1.1 hy ?_
    refine ih (k + 1) _ _ (fun j hj => ?_) (by omega) (inv.set hB.1.1 hkn) hB.2 hK
    have := hl (j + 1) (by simpa using hj)
    rw [show k + 1 + j = k + (j + 1) by omega, ← this]
    rfl

/-- The region: its first n operations quiet, the others behind them in the order of the text. -/
theorem wp_region_quiet_tail {id : Nat} {Q : Exit → Act → World → Prop} {a : Act} {w : World} {l : List Oper} (n : Nat) (hm : P.follows .mixedOrders = true) (hB : Region.lexTailB .any l.toArray n = true)
    (h : wpQuiet P l.toArray (fun w' => ∃ d, w' = w.drewN d) (fun b => ∀ w', (∃ d, w' = w.drewN d) → wpList P l.toArray Q (l.drop n) b w') (l.take n) a) : (Code.region id l.toArray true).wp P Q a w := by
  simp only [Region.lexTailB, Bool.and_eq_true, decide_eq_true_eq] at hB
  obtain ⟨⟨⟨⟨hsel, hn⟩, hs⟩, hc⟩, hlex⟩ := hB
  have hn' : n < l.length := hn
  have htl : (l.take n).length = n := by rw [List.length_take]; omega
  have hsz : l.toArray.size - n = (l.drop n).length := by rw [List.length_drop]; rfl
  rw [hsz] at hlex
  have inv0 : HeadInv .any l.toArray n (Array.replicate l.toArray.size false) :=
    ⟨Array.size_replicate, fun j _ _ hj => (by rw [getD_replicate_false] at hj; exact Bool.noConfusion hj), fun t _ ht => getD_in (by rw [Array.size_replicate]; exact ht) (getD_replicate_false _ _)⟩
  have H := headQ_lex (md := .any) hsel hs hc hn (l.take n) 0 _ a (fun j hj => by rw [htl] at hj; simp [hj]) (by omega) inv0 (by rw [htl]; exact hlex) h
  have H2 := any_of_headQ (R := Q) (g := (l.drop n).length) (fun s b w' hw' hL => wpAny_of_seq (l.drop n) n s b w' (fun j => by simp [List.getElem?_drop]) hL.1 (hL.2 w' hw')) _ _ _ { w with drawn := w.drawn + 1 } ⟨1, rfl⟩ H
  refine wp_region_any hm ?_
  rw [htl, ← hsz, show n + (l.toArray.size - n) = l.toArray.size by have : l.toArray.size = l.length := rfl; omega] at H2
  exact H2
end
end Go.Proofs.YtgbbgdjdomkohaaGreat

/- The document's bytes of a number; its heads; the program's. -/
namespace Go.Proofs.YtgbbgdjdomkohaaGreat
open Go.RowKit

theorem take_le_rev (n : Nat) (x : Int) (k : Nat) (hk : k < n) : (le n x).reverse.take (k + 1) = (le n x).reverse.take k ++ [x / 256 ^ (n - 1 - k) % 256] := by
  rw [List.take_add_one]
  congr 1
  have h1 : k < (le n x).reverse.length := by simp [length_le]; exact hk
  rw [List.getElem?_eq_getElem h1, List.getElem_reverse]
  simp [le]
theorem hinfo1 : (Tryz.prog.info? 5).map (fun i => (i.zero, i.size, i.bytes)) = some (some (.int .u8 0), 1, 1) := by kernel_rfl
set_option maxRecDepth 100000 in
theorem ref_bytes (x : Int) (hx : 0 ≤ x) (hx' : x < 18446744073709551616) (n : Nat) (hn : n ≤ 8) (w : World) :
    Calls Tryz.prog 31 #[.int .u64 x, .int .i64 n] w fun e w' => ∃ v, e = .returned v ∧ Own w' w.heap.size .u8 5 v (le n x).reverse ∧ Below w.heap.size w w' := by
  have HT := Lib.hid (take_le_rev n x)
  have HL := Lib.hid (show (le n x).reverse.length = n by simp [length_le])
  have HP : Hid (∀ k : Nat, k < 8 → x / 2 ^ (8 * k) = x / 256 ^ k) := fun k _ => by rw [Int.pow_mul]; rfl
  generalize (le n x).reverse = L at *
  go_enter Tryz.func31, Tryz.ntmps31
  go_wp2_with fail
  go_loopw [5, 6] (fun v i wr => ∃ k : Nat, k ≤ n ∧ i = .int .i64 ((n : Int) - 1 - k) ∧ Own wr w.heap.size .u8 5 v (L.take k) ∧ Below w.heap.size w wr) (fun _ i _ => (intOf i + 1).toNat)
  case atStart => exact ⟨0, Nat.zero_le _, by simp, Own.nil _ _ _ _, Below.refl _ _⟩
  case round =>
    obtain ⟨k, hk, rfl, hown, hbl⟩ := hrel
    by_cases hlt : k < n
    · have hT := Lib.hid (HT.out k hlt)
      obtain ⟨j, hj⟩ : ∃ j : Nat, n - 1 - k = j := ⟨_, rfl⟩
      have hj' : (n : Int) - 1 - k = j := by omega
      have hj8 : j < 8 := by omega
      rw [hj] at hT
      rw [hj']
      have hb0 : 0 ≤ x / 256 ^ j % 256 := Int.emod_nonneg _ (by decide)
      have hb1 : x / 256 ^ j % 256 < 256 := Int.emod_lt_of_pos _ (by decide)
      have hp := HP.out j hj8
      generalize x / 256 ^ j = y at *
      generalize hz : y % 256 = z at *
      have hln : (L.take k).length = k := by rw [List.length_take, HL.out]; omega
      obtain ⟨A1, c1, rfl, _, _, _, _, _⟩ := hown.form
      rw [hln] at hown ⊢
      have hgs := hbl.size
      have b2 : Blk (wr.alloc (.cells #[.int .u8 z] 5)) wr.heap.size 5 (nums .u8 [z]) := Blk.fresh wr _ _
      obtain ⟨v3, w3, hr3, o3, hb3, _⟩ := run_append_nums (P := Tryz.prog) (ty := 46) (xs := [z]) (cap := 1) Tryz.underlying46 hinfo1 (by decide) (hown.alloc (.cells #[.int .u8 z] 5)) b2.rd (fun h => by cases h) (by simp [hln]; omega) (by show _ ≤ (wr.heap.push _).size; simp; omega)
      rw [← hT.out] at o3
      have HR3 := Lib.hid hr3
      have O3 := Lib.hid o3
      have HB3 := Lib.hid ((hbl.alloc hgs (.cells #[.int .u8 z] 5)).trans hb3)
      clear hr3 o3 hb3 b2 hown
      go_wp2_with ((with_reducible refine is_append 46 rfl ?_); (with_reducible refine wpList_append_run rfl rfl HR3.out ?_ ?_ ?_); (· rfl); (· rfl))
      go_roundw
      case rel => exact ⟨k + 1, by omega, by go_num, O3.out, HB3.out⟩
      case measure => simp [intOf]
    · have hk' : k = n := by omega
      subst hk'
      rw [List.take_of_length_le (by rw [HL.out]; omega)] at hown
      have hend : ¬ (0 : Int) ≤ (k : Int) - 1 - k := by omega
      go_wp2_with fail
      go_ret
      exact ⟨_, rfl, hown, hbl⟩

/-- The head of a major type, a width, an argument. -/
def hinf (W a : Int) : Int := if W = 0 then a else if W = 1 then 24 else if W = 2 then 25 else if W = 4 then 26 else 27
def hlay (m W a : Int) : List Int := (m * 32 + hinf W a) :: (le W.toNat a).reverse
def hputL (m a : Int) : List Int := if m = 7 ∧ 24 ≤ a ∧ (a < 32 ∨ 255 < a) then [] else hlay m (leastW a) a
theorem le_zero (a : Int) : le 0 a = [] := rfl
theorem le_one (a : Int) : le 1 a = [a % 256] := by simp [le, List.range_succ]
theorem own_cells (w : World) (t : TypeId) (zs : List Int) (h : zs.length ≤ 1000) : Own (w.alloc (.cells (nums .u8 zs) t)) w.heap.size .u8 t (.slice (some ⟨w.heap.size, 0, none⟩) zs.length zs.length) zs :=
  Own.ofBlk (Blk.fresh w t _) (Nat.le_refl _) (by unfold maxLen; omega)
/-- One number ahead of others. -/
theorem join_run {w w1 w2 : World} {z : Int} {v : Value} {L : List Int} {n : Nat} (hn : L.length = n) (h1 : w1 = w.alloc (.cells #[.int .u8 z] 5)) (hb : Below w1.heap.size w1 w2) (ho : Own w2 w1.heap.size .u8 5 v L) (hl : n ≤ 1000) :
    ∃ A cap v' w3, v = .slice A n cap ∧ (Builtin.append_ #[46, 46] 46 #[.slice (some ⟨w.heap.size, 0, none⟩) 1 1, .slice A n cap]).run Tryz.prog w2 = .ok v' w3 ∧ Own w3 w.heap.size .u8 5 v' (z :: L) ∧ Below w.heap.size w w3 := by
  subst h1 hn
  have o1 := (own_cells w 5 [z] (by simp)).below hb
  obtain ⟨A, cap, rfl, _, _, hnil, _, hr⟩ := ho.form
  have hs : w.heap.size ≤ (w.alloc (.cells #[.int .u8 z] 5)).heap.size := by show _ ≤ (w.heap.push _).size; simp
  obtain ⟨v3, w3, hr3, o3, hb3, _⟩ := run_append_nums (P := Tryz.prog) (ty := 46) (xs := L) (cap := cap) Tryz.underlying46 hinfo1 (by decide) o1 hr hnil (by simp; omega) (Nat.le_trans hs hb.size)
  exact ⟨A, cap, v3, w3, rfl, hr3, o3, ((below_alloc w _).trans (hb.mono hs)).trans hb3⟩
theorem length_rle (n : Nat) (a : Int) : (le n a).reverse.length = n := by simp [length_le]
set_option maxRecDepth 100000 in
theorem ref_hput (m a : Int) (hm0 : 0 ≤ m) (hm7 : m ≤ 7) (h0 : 0 ≤ a) (h1 : a < 18446744073709551616) (w : World) :
    Calls Tryz.prog 21 #[.int .i64 m, .int .u64 a] w fun e w' => ∃ v, e = .returned v ∧ Own w' w.heap.size .u8 5 v (hputL m a) ∧ Below w.heap.size w w' := by
  by_cases h24 : a < 24
  · have e : hputL m a = [32 * m + a] := by
      unfold hputL hlay hinf leastW
      rw [if_neg (by omega), if_pos h24, if_pos rfl, Int.mul_comm]
      rfl
    rw [e]
    clear e
    go_enter Tryz.func21, Tryz.ntmps21
    go_wp2_with fail
    go_ret
    exact ⟨_, rfl, own_cells w _ [32 * m + a] (by simp), below_alloc _ _⟩
  by_cases h7 : m = 7 ∧ (a < 32 ∨ 255 < a)
  · have e : hputL m a = [] := by unfold hputL; rw [if_pos ⟨h7.1, by omega, h7.2⟩]
    rw [e]
    obtain ⟨rfl, h7⟩ := h7
    clear e
    by_cases h32 : a < 32
    · clear h7
      go_enter Tryz.func21, Tryz.ntmps21
      go_wp2_with fail
      go_ret
      exact ⟨_, rfl, Own.nil _ _ _ _, Below.refl _ _⟩
    · have h255 : 255 < a := by omega
      clear h7
      go_enter Tryz.func21, Tryz.ntmps21
      go_wp2_with fail
      go_ret
      exact ⟨_, rfl, Own.nil _ _ _ _, Below.refl _ _⟩
  have e0 : hputL m a = hlay m (leastW a) a := by unfold hputL; rw [if_neg (by omega)]
  rw [e0]
  clear e0
  by_cases h256 : a < 256
  · have e : hlay m (leastW a) a = [32 * m + 24, a] := by
      have e1 : leastW a = 1 := by unfold leastW; rw [if_neg h24, if_pos h256]
      rw [e1]
      show [m * 32 + 24, a / 256 ^ 0 % 256] = _
      rw [Int.mul_comm, Int.pow_zero, Int.ediv_one, Int.emod_eq_of_lt h0 h256]
    rw [e]
    clear e
    by_cases hm : m = 7
    · subst hm
      have h32 : ¬ a < 32 := by omega
      have h255 : ¬ 255 < a := by omega
      clear h7
      go_enter Tryz.func21, Tryz.ntmps21
      go_wp2_with fail
      go_ret
      exact ⟨_, rfl, own_cells w _ [248, a] (by simp), below_alloc _ _⟩
    · clear h7
      go_enter Tryz.func21, Tryz.ntmps21
      go_wp2_with fail
      go_ret
      exact ⟨_, rfl, own_cells w _ [32 * m + 24, a] (by simp), below_alloc _ _⟩
  have hm : m ≠ 7 := by omega
  clear h7
  by_cases h2 : a < 65536
  · have e : hlay m (leastW a) a = (32 * m + 25) :: (le 2 a).reverse := by
      have e1 : leastW a = 2 := by unfold leastW; rw [if_neg h24, if_neg h256, if_pos h2]
      rw [e1, Int.mul_comm]
      rfl
    rw [e]
    clear e
    have HB := Lib.hid (ref_bytes a h0 h1 2 (by decide))
    have HJ := fun w2 v => join_run (n := 2) (length_rle 2 a) (rfl : _ = w.alloc (.cells #[.int .u8 (32 * m + 25)] 5)) (w2 := w2) (v := v)
    generalize (le 2 a).reverse = L at *
    go_enter Tryz.func21, Tryz.ntmps21
    go_wp2_with fail
    refine (HB.out _).mono ?_
    rintro e w2 ⟨v, rfl, O2, S2⟩
    obtain ⟨A, cap, v3, w3, rfl, hr3, o3, s3⟩ := HJ w2 v S2 O2 (by decide)
    have HR3 := Lib.hid hr3
    clear hr3 O2 S2 HJ HB
    go_wp2_with ((with_reducible refine is_append 46 rfl ?_); (with_reducible refine wpList_append_run rfl rfl HR3.out ?_ ?_ ?_); (· rfl); (· rfl))
    go_ret
    exact ⟨_, rfl, o3, s3⟩
  by_cases h4 : a < 4294967296
  · have e : hlay m (leastW a) a = (32 * m + 26) :: (le 4 a).reverse := by
      have e1 : leastW a = 4 := by unfold leastW; rw [if_neg h24, if_neg h256, if_neg h2, if_pos h4]
      rw [e1, Int.mul_comm]
      rfl
    rw [e]
    clear e
    have HB := Lib.hid (ref_bytes a h0 h1 4 (by decide))
    have HJ := fun w2 v => join_run (n := 4) (length_rle 4 a) (rfl : _ = w.alloc (.cells #[.int .u8 (32 * m + 26)] 5)) (w2 := w2) (v := v)
    generalize (le 4 a).reverse = L at *
    go_enter Tryz.func21, Tryz.ntmps21
    go_wp2_with fail
    refine (HB.out _).mono ?_
    rintro e w2 ⟨v, rfl, O2, S2⟩
    obtain ⟨A, cap, v3, w3, rfl, hr3, o3, s3⟩ := HJ w2 v S2 O2 (by decide)
    have HR3 := Lib.hid hr3
    clear hr3 O2 S2 HJ HB
    go_wp2_with ((with_reducible refine is_append 46 rfl ?_); (with_reducible refine wpList_append_run rfl rfl HR3.out ?_ ?_ ?_); (· rfl); (· rfl))
    go_ret
    exact ⟨_, rfl, o3, s3⟩
  · have e : hlay m (leastW a) a = (32 * m + 27) :: (le 8 a).reverse := by
      have e1 : leastW a = 8 := by unfold leastW; rw [if_neg h24, if_neg h256, if_neg h2, if_neg h4]
      rw [e1, Int.mul_comm]
      rfl
    rw [e]
    clear e
    have HB := Lib.hid (ref_bytes a h0 h1 8 (by decide))
    have HJ := fun w2 v => join_run (n := 8) (length_rle 8 a) (rfl : _ = w.alloc (.cells #[.int .u8 (32 * m + 27)] 5)) (w2 := w2) (v := v)
    generalize (le 8 a).reverse = L at *
    go_enter Tryz.func21, Tryz.ntmps21
    go_wp2_with fail
    refine (HB.out _).mono ?_
    rintro e w2 ⟨v, rfl, O2, S2⟩
    obtain ⟨A, cap, v3, w3, rfl, hr3, o3, s3⟩ := HJ w2 v S2 O2 (by decide)
    have HR3 := Lib.hid hr3
    clear hr3 O2 S2 HJ HB
    go_wp2_with ((with_reducible refine is_append 46 rfl ?_); (with_reducible refine wpList_append_run rfl rfl HR3.out ?_ ?_ ?_); (· rfl); (· rfl))
    go_ret
    exact ⟨_, rfl, o3, s3⟩
end Go.Proofs.YtgbbgdjdomkohaaGreat
