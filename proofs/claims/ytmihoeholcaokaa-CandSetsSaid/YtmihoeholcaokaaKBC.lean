/- A region that draws its order, inside a round of a loop over a function too: operations that only read, and calls that lay blocks of their own, walked once in the order of the text; others may stand behind them. -/
import Derived.StillTail
import Derived.Lib.QuietBelowIn
import Derived.OwnWalkIn
import Derived.Test.YtmihoeholcaokaaKAH
import Derived.Test.YtmihoeholcaokaaKAX
import Derived.Test.YtmihoeholcaokaaKBA
import Derived.Test.YtmihoeholcaokaaKBB
import Derived.Test.YtmihoeholcaokaaKAT
namespace Go.Proofs.Ytmihoeholcaokaa
open Go Go.Sort

section
variable {F : Fence} {m : Nat} {P : Program} {ops : Array Oper} {md : Region.Mode} {C : World → Prop}

def isDefer : Op → Bool
  | .defer _ => true
  | _ => false
def noDefer (ops : Array Oper) : Bool := ops.all fun o => !isDefer o.op
theorem noDefer_spec (h : noDefer ops = true) {i : Nat} {o : Oper} (ho : ops[i]? = some o) : ∀ c, o.op ≠ .defer c := by
  intro c e
  unfold noDefer at h
  rw [Array.all_eq_true] at h
  obtain ⟨hi, he⟩ := Array.getElem?_eq_some_iff.1 ho
  have := h i hi
  rw [he, e] at this
  cases this
theorem wpIn_of_quietR {o : Oper} {a : Act} {K : Act → Prop} {K' : Act → World → Prop} {Q' : Exit → Act → World → Prop} {w : World} (hd : ∀ c, o.op ≠ .defer c) (hw : C w) (h : ∀ a w', C w' → K a → K' a w')
    (ha : o.askedIn F P a C) (hh : o.quietIn F m P a C K) : o.wpIn F m P a w K' Q' := by
  obtain ⟨v, h1, h2⟩ := hh
  have h3 := h1 w hw
  unfold Oper.quietAtIn at h3
  unfold Oper.wpIn
  refine ⟨ha w hw, ?_⟩
  rw [Oper.semAt_plain F _ _ hd]
  generalize (execOp a.eval o).run P w = r at *
  cases r with
  | ok x w' =>
    cases x <;> simp only [Oper.quietUponIn] at h3 <;> simp only [Oper.uponIn]
    case value u =>
      obtain ⟨e1, e2⟩ := h3
      rw [e1, e2]
      exact h _ _ hw h2
    case skip =>
      obtain ⟨e1, e2⟩ := h3
      rw [e1, ← e2]
      exact h _ _ hw h2
    case enter f args =>
      obtain ⟨e1, hd, hc⟩ := h3
      rw [e1]
      exact ⟨hd, hc.mono fun e w'' ⟨he, hw''⟩ => by subst he; exact h _ _ hw'' h2⟩
  | halt x w' => simp only [Oper.quietUponIn] at h3
theorem wpOpIn_of_qOpInR {i : Nat} {a : Act} {K : Act → Prop} {K' : Act → World → Prop} {Q' : Exit → Act → World → Prop} {w : World} (hnd : noDefer ops = true) (hC : C w) (h : ∀ a w', C w' → K a → K' a w')
    (hh : qOpIn F m P ops C i K a) : wpOpIn F m P ops Q' i K' a w := by
  unfold qOpIn at hh
  unfold wpOpIn
  split
  · rename_i ho; simp only [ho] at hh; exact h _ _ hC hh
  · rename_i o ho
    simp only [ho] at hh
    obtain ⟨ha, hh⟩ := hh
    split
    · rename_i hw; simp only [hw, if_true] at hh; exact wpIn_of_quietR (noDefer_spec hnd ho) hC h ha hh
    · rename_i hw; simp only [hw] at hh; exact ⟨ha w hC, h _ _ hC hh⟩
theorem wpAnyIn_of_quietR {Q : Act → Prop} {Q' : Exit → Act → World → Prop} (hnd : noDefer ops = true) (hQ : ∀ a w, C w → Q a → Q' .normal a w) : ∀ (fuel : Nat) (listed : Array Bool) (a : Act) (w : World), C w →
    wpAnyQIn F m P md ops C Q fuel listed a → wpAnyIn F m P md ops Q' fuel listed a w
  | 0, _, _, _, hw, h => ⟨h.1, hQ _ _ hw h.2⟩
  | fuel + 1, _, _, _, hw, h => ⟨fun h0 => hQ _ _ hw (h.1 h0), fun i hi => wpOpIn_of_qOpInR hnd hw (fun a' w' hw' => wpAnyIn_of_quietR hnd hQ fuel _ a' w' hw') (h.2 i hi)⟩
/-- The whole region only reads, its callees lay blocks of their own. -/
theorem wpIn_region_quietR {id : Nat} {Q : Exit → Act → World → Prop} {a : Act} {w : World} {l : List Oper} (hm : P.follows .mixedOrders = true) (hnd : noDefer l.toArray = true) (hB : Region.lexB .any l.toArray = true)
    (h : wpQuietIn F m P l.toArray (fun w' => ∃ p : Regrown, w' = grow (redrawn w p.d) p.os) (fun a' => ∀ w', (∃ p : Regrown, w' = grow (redrawn w p.d) p.os) → Q .normal a' w') l a) : (Code.region id l.toArray true).wpIn F m P Q a w := by
  simp only [Region.lexB, Bool.and_eq_true] at hB
  refine wpIn_region_any hm (wpAnyIn_of_quietR (C := fun w' => ∃ p : Regrown, w' = grow (redrawn w p.d) p.os) (Q := fun a' => ∀ w', (∃ p : Regrown, w' = grow (redrawn w p.d) p.os) → Q .normal a' w') hnd (fun _ w' hw' h => h w' hw') _ _ _ _ ⟨⟨w.drawn + 1, #[]⟩, by rw [grow_empty]; rfl⟩ ?_)
  have := wpAnyQIn_lex (F := F) (n := m) (C := fun w' => ∃ p : Regrown, w' = grow (redrawn w p.d) p.os) (md := .any) hB.1 l 0 (Array.replicate l.toArray.size false) a (by simp) (by simpa using hB.2) h
  simpa using this

/-- f operations come up, all ahead of number n, whatever their order; then L holds. -/
def headQIn (F : Fence) (m : Nat) (P : Program) (md : Region.Mode) (ops : Array Oper) (C : World → Prop) (n : Nat) (L : Array Bool → Act → Prop) : Nat → Array Bool → Act → Prop
  | 0, seen, a => L seen a
  | f + 1, seen, a => Region.ready md ops seen ≠ [] ∧ ∀ i, i ∈ Region.ready md ops seen → i < n ∧ qOpIn F m P ops C i (fun b => headQIn F m P md ops C n L f (seen.setIfInBounds i true) b) a
theorem any_of_headQIn {n g : Nat} {L : Array Bool → Act → Prop} {R : Exit → Act → World → Prop} (hnd : noDefer ops = true) (hL : ∀ seen a w, C w → L seen a → wpAnyIn F m P md ops R g seen a w) (f : Nat) :
    ∀ (seen : Array Bool) (a : Act) (w : World), C w → headQIn F m P md ops C n L f seen a → wpAnyIn F m P md ops R (f + g) seen a w := by
  induction f with
  | zero => intro seen a w hw h; rw [Nat.zero_add]; exact hL _ _ _ hw h
  | succ f ih =>
    intro seen a w hw h
    rw [Nat.add_right_comm]
    refine ⟨fun e => (h.1 e).elim, fun i hi => ?_⟩
    exact wpOpIn_of_qOpInR hnd hw (fun b w' hw' hb => ih _ b w' hw' hb) (h.2 i hi).2
theorem headQIn_first {n i : Nat} {oi : Oper} {v : Value} {L : Array Bool → Act → Prop} (hi : ops[i]? = some oi) (hsel : ∀ (j : Nat) (o : Oper) cs b, ops[j]? = some o → o.op ≠ .select cs b)
    (hs : Region.sinkB md ops n = true) (hc : Region.chainB md ops n = true) (hn : n < ops.size) (hin : i < n) (hend : ∀ seen a, L seen a → ∀ j, j ∈ Region.ready md ops seen → n ≤ j) (f : Nat) :
    ∀ (seen : Array Bool) (a : Act), HeadInv md ops n seen → (∀ j oj, ops[j]? = some oj → j ≠ i → seen.getD j true = false → (∀ e ∈ oj.after, Region.binds md e = true → e.on ≠ i) → oi.apart ops oj = true) →
      i ∈ Region.ready md ops seen → YieldsQuiet F m P ops C oi v a → headQIn F m P md ops C n L f (seen.setIfInBounds i true) (a.put oi.dst v) → headQIn F m P md ops C n L (f + 1) seen a := by
  induction f with
  | zero =>
    intro seen a inv _ hr hy H
    refine ⟨List.ne_nil_of_mem hr, fun j hj => ?_⟩
    have hjn : j < n := Nat.lt_of_not_le fun hle => tail_waits hs hc hn inv _ i rfl hin (mem_ready.1 hr).1 j hle hj
    refine ⟨hjn, ?_⟩
    rcases Decidable.em (j = i) with e | e
    · rw [e]; exact hy.qOpIn hi H
    · exact absurd (hend _ _ H j (ready_mono hj e)) (Nat.not_le_of_lt hjn)
  | succ f ih =>
    intro seen a inv hfree hr hy H
    have hun := (mem_ready.1 hr).1
    refine ⟨List.ne_nil_of_mem hr, fun j hj => ?_⟩
    have hjn : j < n := Nat.lt_of_not_le fun hle => tail_waits hs hc hn inv _ i rfl hin hun j hle hj
    refine ⟨hjn, ?_⟩
    rcases Decidable.em (j = i) with e | e
    · rw [e]; exact hy.qOpIn hi H
    obtain ⟨hju, oj, hoj, hall⟩ := mem_ready.1 hj
    have hno : ∀ x ∈ oj.after, Region.binds md x = true → x.on ≠ i := fun x hx hb he => by
      have := hall x hx hb
      rw [he, getD_both hun] at this
      exact Bool.noConfusion this
    have h1 := (H.2 j (ready_mono hj e)).2
    have h2 := qOpIn_put hoj (hfree j oj hoj e hju hno) (fun cs b => hsel i oi cs b hi) (fun cs b => hsel j oj cs b hoj) hy h1
    refine qOpIn_mono (fun b hb => ?_) h2
    refine ih _ b (inv.set hj hjn) (fun k ok hk hki hku hkn => ?_) (ready_mono hr (Ne.symm e)) hb.1 ?_
    · refine hfree k ok hk hki ?_ hkn
      rcases Decidable.em (j = k) with ejk | ejk
      · rw [← ejk]; exact hju
      · rwa [getD_set_ne true ejk] at hku
    · rw [Array.setIfInBounds_comm _ _ e]
      exact hb.2
theorem headQIn_lex {n g : Nat} {K : Act → Prop} (hsel : Region.noSelect ops = true) (hs : Region.sinkB md ops n = true) (hc : Region.chainB md ops n = true) (hn : n < ops.size) (l : List Oper) :
    ∀ (k : Nat) (seen : Array Bool) (a : Act), (∀ j, j < l.length → l[j]? = ops[k + j]?) → k + l.length = n → HeadInv md ops n seen → Region.lexHead md ops g l.length k seen = true → wpQuietIn F m P ops C K l a →
      headQIn F m P md ops C n (fun s b => Region.seqB md ops g n s = true ∧ K b) l.length seen a := by
  induction l with
  | nil =>
    intro k seen a _ hk _ hB h
    obtain rfl : k = n := hk
    exact ⟨hB, h⟩
  | cons o l ih =>
    intro k seen a hl hk inv hB h
    have h0 : ops[k]? = some o := (hl 0 (Nat.succ_pos _)).symm
    rw [List.length_cons] at hk
    simp only [List.length_cons, Region.lexHead, Bool.and_eq_true, List.contains_iff_mem] at hB
    have hkn : k < n := by omega
    have hq : qOpIn F m P ops C k (wpQuietIn F m P ops C K l) a := by unfold qOpIn; rw [h0]; exact h
    obtain ⟨v, hy, hK⟩ := yieldsQuiet_of_qOpIn h0 hq
    refine headQIn_first h0 (Region.noSelect_spec hsel) hs hc hn hkn (fun s b hL => seqB_ready hL.1) l.length seen a inv (Region.free_spec h0 hB.1.2) hB.1.1 hy ?_
    refine ih (k + 1) _ _ (fun j hj => ?_) (by omega) (inv.set hB.1.1 hkn) hB.2 hK
    have := hl (j + 1) (by simpa using hj)
    rw [show k + 1 + j = k + (j + 1) by omega, ← this]
    rfl
theorem wpAnyIn_of_seq {Q' : Exit → Act → World → Prop} : ∀ (l : List Oper) (k : Nat) (listed : Array Bool) (a : Act) (w : World), (∀ j, l[j]? = ops[k + j]?) →
    Region.seqB md ops l.length k listed = true → wpListIn F m P ops Q' l a w → wpAnyIn F m P md ops Q' l.length listed a w
  | [], _, _, _, _, _, hB, h => ⟨by simpa [Region.seqB] using hB, h⟩
  | o :: l, k, listed, a, w, hl, hB, h => by
    have h0 : ops[k]? = some o := by simpa using (hl 0).symm
    simp only [List.length_cons, Region.seqB, Bool.and_eq_true, decide_eq_true_eq] at hB
    refine ⟨fun h1 => (by rw [hB.1] at h1; cases h1), fun i hi => ?_⟩
    rw [hB.1] at hi
    have hik : i = k := by simpa using hi
    subst hik
    have hw : wpOpIn F m P ops Q' i (wpListIn F m P ops Q' l) a w := by unfold wpOpIn; simp only [h0]; exact h
    exact wpOpIn_mono (fun a' w' h' => wpAnyIn_of_seq l (i + 1) _ a' w' (fun j => by have := hl (j + 1); simpa [Nat.add_assoc, Nat.add_comm 1 j] using this) hB.2 h') hw
/-- The region: its first n operations so, the others behind them in the order of the text. -/
theorem wpIn_region_tailR {id : Nat} {Q : Exit → Act → World → Prop} {a : Act} {w : World} {l : List Oper} (n : Nat) (hm : P.follows .mixedOrders = true) (hnd : noDefer l.toArray = true) (hB : Region.lexTailB .any l.toArray n = true)
    (h : wpQuietIn F m P l.toArray (fun w' => ∃ p : Regrown, w' = grow (redrawn w p.d) p.os) (fun b => ∀ w', (∃ p : Regrown, w' = grow (redrawn w p.d) p.os) → wpListIn F m P l.toArray Q (l.drop n) b w') (l.take n) a) : (Code.region id l.toArray true).wpIn F m P Q a w := by
  simp only [Region.lexTailB, Bool.and_eq_true, decide_eq_true_eq] at hB
  obtain ⟨⟨⟨⟨hsel, hn⟩, hs⟩, hc⟩, hlex⟩ := hB
  have hn' : n < l.length := hn
  have htl : (l.take n).length = n := by rw [List.length_take]; omega
  have hsz : l.toArray.size - n = (l.drop n).length := by rw [List.length_drop]; rfl
  rw [hsz] at hlex
  have inv0 : HeadInv .any l.toArray n (Array.replicate l.toArray.size false) :=
    ⟨Array.size_replicate, fun j _ _ hj => (by rw [getD_replicate_false] at hj; exact Bool.noConfusion hj), fun t _ ht => getD_in (by rw [Array.size_replicate]; exact ht) (getD_replicate_false _ _)⟩
  have H := headQIn_lex (md := .any) hsel hs hc hn (l.take n) 0 _ a (fun j hj => by rw [htl] at hj; simp [hj]) (by omega) inv0 (by rw [htl]; exact hlex) h
  have H2 := any_of_headQIn (R := Q) (g := (l.drop n).length) hnd (fun s b w' hw' hL => wpAnyIn_of_seq (l.drop n) n s b w' (fun j => by simp [List.getElem?_drop]) hL.1 (hL.2 w' hw')) _ _ _ { w with drawn := w.drawn + 1 } ⟨⟨w.drawn + 1, #[]⟩, by rw [grow_empty]; rfl⟩ H
  refine wpIn_region_any hm ?_
  rw [htl, ← hsz, show n + (l.toArray.size - n) = l.toArray.size by have : l.toArray.size = l.length := rfl; omega] at H2
  exact H2
end
end Go.Proofs.Ytmihoeholcaokaa

/- Package item: Check, whole; what the law ItemTells asks of both sides. -/
namespace Go.Proofs.Ytmihoeholcaokaa
open Go.RowKit Go.Sort

theorem okI_item {N : Nat} {x : It} (hx : okI N x) {d : Nat} {t : It} (ht : (d, t) ∈ x.items 1) : 0 ≤ t.n ∧ t.n < 18446744073709551616 ∧ t.s.size ≤ N ∧ t.count ≤ N :=
  ⟨(hx.2 1 _ ht).1, (hx.2 1 _ ht).2.1, (hx.2 1 _ ht).2.2, Nat.le_trans (It.items_count x 1 _ ht) hx.1⟩
theorem item_CheckW (x : It) (A : Option Addr) (cap n : Nat) (w : World) (hx : okI 1048576 x) (hn : n ≤ w.heap.size) (h : AtB w n x A cap) :
    Calls Try.prog 33 #[vI x A cap] w fun e w' => e = .returned (.int .i64 (checkR wrongI x)) ∧ Below w.heap.size w w' := by
  have hc := hx.1
  refine item_Check x A cap n w wrongI (by omega) hn h fun d t A cap W ht hnW hat => ?_
  obtain ⟨h1, h2, h3, h4⟩ := okI_item hx ht
  exact item_checkOne t A cap n W h1 h2 (by omega) hnW hat fun _ W2 hn2 hat2 => item_twice t.l A cap n W2 (by rw [It.count_eq] at h4; omega) hn2 hat2.rl
/-- Few items stand not deep in all. -/
theorem deepSum_few {x : It} (h : x.count ≤ 200) : deepSum x ≤ 2147483647 := by
  have h1 : ∀ (l : List Nat) (B : Nat), (∀ a ∈ l, a ≤ B) → l.sum ≤ l.length * B := by
    intro l B hl
    induction l with
    | nil => simp
    | cons a r ih =>
      have h2 := ih fun b hb => hl b (List.mem_cons_of_mem _ hb)
      have h3 := hl a (List.mem_cons_self ..)
      rw [List.sum_cons, List.length_cons, Nat.add_mul]
      omega
  have h2 := h1 ((x.items 1).map (·.1)) 200 fun a ha => by
    obtain ⟨p, hp, rfl⟩ := List.mem_map.1 ha
    have := It.items_deep x 1 p hp
    omega
  rw [List.length_map, It.length_items] at h2
  have h3 : x.count * 200 ≤ 200 * 200 := Nat.mul_le_mul_right 200 h
  unfold deepSum
  omega
theorem not_great {x : It} (h : greatB x = false) : x.count ≤ 200 := by
  unfold greatB at h
  rw [Bool.or_eq_false_iff] at h
  have := of_decide_eq_false h.2
  omega
/-- What Items hands back, as it is read. -/
structure ItemsAt (x : It) (n : Nat) (w : World) (g1 g2 : Nat) : Prop where
  l1 : g1 < w.heap.size
  l2 : g2 < w.heap.size
  at_ : ∀ (k d : Nat) (X : It), (x.items 1)[k]? = some (d, X) → w.cell? ⟨g2, k, none⟩ = some (.int .i64 (d : Int)) ∧ ∃ A c, w.cell? ⟨g1, k * 4, none⟩ = some (.int .i64 X.k) ∧ w.cell? ⟨g1, k * 4 + 1, none⟩ = some (.int .u64 X.n) ∧ w.cell? ⟨g1, k * 4 + 2, none⟩ = some (.string X.s) ∧
    w.cell? ⟨g1, k * 4 + 3, none⟩ = some (.slice A X.l.length c) ∧ AtB w n X A c
theorem ItemsAt.on {x : It} {n g1 g2 : Nat} {w w' : World} (h : ItemsAt x n w g1 g2) (hb : Below w.heap.size w w') (hn : n ≤ w.heap.size) : ItemsAt x n w' g1 g2 := by
  refine ⟨Nat.lt_of_lt_of_le h.l1 hb.size, Nat.lt_of_lt_of_le h.l2 hb.size, fun k d X hk => ?_⟩
  obtain ⟨h0, A, c, c0, c1, c2, c3, ha⟩ := h.at_ k d X hk
  have e1 := hb.block g1 h.l1
  have e2 := hb.block g2 h.l2
  exact ⟨cell_kept' e2 h0, A, c, cell_kept' e1 c0, cell_kept' e1 c1, cell_kept' e1 c2, cell_kept' e1 c3, ha.keep (hb.mono hn)⟩
theorem items_at {x : It} {n B : Nat} {w : World} {v1 v2 : Value} (h : ItemsPost x n 1 B w v1 v2) : ∃ g1 c1 g2 c2, v1 = .slice (some ⟨g1, 0, none⟩) x.count c1 ∧ v2 = .slice (some ⟨g2, 0, none⟩) x.count c2 ∧ ItemsAt x n w g1 g2 := by
  obtain ⟨o1, o2⟩ := h
  have hl1 := length_its x 1
  have hl2 := length_deps x 1
  obtain ⟨g1, c1, rfl, _, _, _, hg1⟩ := o1.form (by rw [hl1]; exact count_pos x)
  obtain ⟨g2, c2, rfl, _, _, _⟩ := o2.head (by rw [hl2]; exact count_pos x)
  have hg2 := o2.lt (by rw [hl2]; exact count_pos x)
  refine ⟨g1, c1, g2, c2, by rw [hl1], by rw [hl2], hg1, hg2, fun k d X hk => ?_⟩
  have hlt : k < x.count := by
    rw [← It.length_items x 1]
    rcases Nat.lt_or_ge k (x.items 1).length with h | h
    · exact h
    · rw [List.getElem?_eq_none h] at hk; cases hk
  constructor
  · have h0 := (o2.at (j := k) (by rw [hl2]; exact hlt)).1
    have e : (deps x 1).getD k 0 = (d : Int) := by rw [deps, List.getD_eq_getElem?_getD, List.getElem?_map, hk]; rfl
    rw [e] at h0
    exact h0
  · obtain ⟨X', A, c, hX, _, c0, c1, c2, c3, ha⟩ := o1.item (i := k) (by rw [hl1]; exact hlt)
    have : (its x 1)[k]? = some X := by rw [its, List.getElem?_map, hk]; rfl
    rw [this] at hX
    cases hX
    exact ⟨A, c, c0, c1, c2, c3, ha⟩
/-- What the law's loops lean on: they turn none of it. -/
structure Cx (x : It) (few : Int) (g L Bk g1 c1 g2 c2 : Nat) (A' : Option Addr) (c' : Nat) (W : World) : Prop where
  few : W.cell? ⟨g + 1, 0, none⟩ = some (.int .u8 few)
  res : W.cell? ⟨g + 2, 0, none⟩ = some (.bool false)
  resf : W.frozen? ⟨g + 2, 0, none⟩ = false
  l : W.cell? ⟨L, 0, none⟩ = some (.slice (some ⟨g1, 0, none⟩) x.count c1)
  d : W.cell? ⟨L + 1, 0, none⟩ = some (.slice (some ⟨g2, 0, none⟩) x.count c2)
  it : ItemsAt x g W g1 g2
  bk : Blk W Bk 39 #[.int .i64 x.k, .int .u64 x.n, .string x.s, .slice A' x.l.length c']
  at_ : AtB W Bk x A' c'
  gl : g ≤ L
  lb : L + 2 ≤ Bk
theorem Cx.on {x : It} {few : Int} {g L Bk g1 c1 g2 c2 : Nat} {A' : Option Addr} {c' : Nat} {W W' : World} (h : Cx x few g L Bk g1 c1 g2 c2 A' c' W) (hb : Below W.heap.size W W') : Cx x few g L Bk g1 c1 g2 c2 A' c' W' := by
  have hl := h.bk.lt
  have hg : g ≤ W.heap.size := by have := h.gl; have := h.lb; omega
  exact ⟨(hb.cell (p := ⟨g + 1, 0, none⟩) (block_lt_of_cell h.few)).trans h.few, (hb.cell (p := ⟨g + 2, 0, none⟩) (block_lt_of_cell h.res)).trans h.res, (hb.frozen (p := ⟨g + 2, 0, none⟩) (block_lt_of_cell h.res)).trans h.resf,
    (hb.cell (p := ⟨L, 0, none⟩) (block_lt_of_cell h.l)).trans h.l, (hb.cell (p := ⟨L + 1, 0, none⟩) (block_lt_of_cell h.d)).trans h.d, h.it.on hb hg, h.bk.on hb, h.at_.keep (hb.mono (Nat.le_of_lt hl)), h.gl, h.lb⟩
/-- The told one is the next of the list. -/
theorem told_next {x : It} {pre : List Told} {z : Told} (h : (pre ++ [z]).map toldOf <+: x.items 1) : (x.items 1)[pre.length]? = some (z.d, z.t) := by
  obtain ⟨r, hr⟩ := h
  rw [← hr, List.map_append, List.append_assoc, List.getElem?_append_right (by simp)]
  simp [toldOf]
theorem told_lt {x : It} {pre : List Told} {z : Told} (h : (pre ++ [z]).map toldOf <+: x.items 1) : pre.length < x.count := by
  have := h.length_le
  rw [List.length_map, List.length_append, It.length_items] at this
  exact this
theorem told_all {x : It} {xs : List Told} (h : xs.map toldOf = x.items 1) : xs.length = x.count := by
  have := congrArg List.length h
  rwa [List.length_map, It.length_items] at this
end Go.Proofs.Ytmihoeholcaokaa

/- Package schema: valued, ranged, formed. -/
namespace Go.Proofs.Ytmihoeholcaokaa
open Go.RowKit

/-- What is wrong of an item. -/
noncomputable def chI : It → Int := checkR wrongI
set_option maxRecDepth 100000 in
set_option maxHeartbeats 1000000 in
theorem sch_valued (v : It) (A : Option Addr) (cap n : Nat) (w : World) (hv : okI 1048576 v) (hn : n ≤ w.heap.size) (h : AtB w n v A cap) :
    Calls Try.prog 29 #[vI v A cap] w fun e w' => e = .returned (.bool (valuedN chI v)) ∧ Below w.heap.size w w' := by
  obtain ⟨w1, hw1, b1, S⟩ := iblk1 w 39 #[.int .i64 v.k, .int .u64 v.n, .string v.s, .slice A v.l.length cap]
  obtain ⟨p0, p1, p2, p3, -⟩ := iblk b1
  have HC := Lib.hid (item_CheckW v A cap n w1 hv (Nat.le_trans hn S.size) (h.keep (S.mono hn)))
  have HR : Hid (∀ r, r = ((decide (v.k = 0) || decide (v.k = 1) || decide (v.k = 2) || decide (v.k = 3) || decide (v.k = 7)) && decide (chI v = 0)) → r = valuedN chI v) := Lib.hid fun r h => h
  have HS := Lib.hid S
  clear S h hn hv b1
  change Hid (Calls _ _ _ _ fun e w' => e = .returned (.int .i64 (chI v)) ∧ _) at HC
  generalize valuedN chI v = res at *
  generalize chI v = c at *
  simp only [vI] at HC ⊢
  go_enter Try.func29, Try.ntmps29
  go_wp2_with (first
        | (go_at_call 33; refine HC.out.mono ?_; rintro e w2 ⟨rfl, hb2⟩; have HB2 := Lib.hid hb2; clear hb2))
  all_goals go_ret
  all_goals first
    | exact ⟨by rw [← HR.out _ rfl]; clear HR HC HS HB2 p0 p1 p2 p3 hw1; simp_all <;> first | rfl | omega, HS.out.trans (HB2.out.mono HS.out.size)⟩
    | exact ⟨by rw [← HR.out _ rfl]; clear HR HC HS p0 p1 p2 p3 hw1; simp_all <;> first | rfl | omega, HS.out⟩

set_option maxRecDepth 100000 in
set_option maxHeartbeats 1000000 in
theorem sch_ranged (x : Nd) (p : Pl) (w : World) :
    Calls Try.prog 26 #[vN x p] w fun e w' => e = .returned (.bool (rangedN x)) ∧ Below w.heap.size w w' := by
  have b1 := Blk.fresh w 42 (nc x p)
  have S := below_alloc w (.cells (nc x p) 42)
  obtain ⟨w1, hw1⟩ : ∃ w1, w.alloc (.cells (nc x p) 42) = w1 := ⟨_, rfl⟩
  rw [hw1] at b1 S
  unfold nc at b1 hw1
  obtain ⟨p0, p1, p2, p3, p4, p5, p6, p7, p8⟩ := nblk b1
  have HS := Lib.hid S
  have HR : Hid (∀ r, r = (if x.k = 2 ∨ x.k = 3 ∨ x.k = 6 then decide (0 ≤ x.lo) && decide (x.lo ≤ x.hi) else if x.k = 1 then decide (x.lo ≤ x.hi) else if x.k = 9 then decide (0 ≤ x.lo) else true) → r = rangedN x) := Lib.hid fun r h => h
  generalize rangedN x = res at *
  clear S b1
  simp only [vN]
  go_enter Try.func26, Try.ntmps26
  go_wp2_with fail
  all_goals go_ret
  all_goals exact ⟨by rw [← HR.out _ rfl]; clear HR HS p0 p1 p2 p3 p4 p5 p6 p7 p8 hw1; simp_all <;> first | rfl | omega, HS.out⟩
end Go.Proofs.Ytmihoeholcaokaa
