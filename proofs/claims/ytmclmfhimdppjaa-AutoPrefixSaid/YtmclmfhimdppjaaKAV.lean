/- A region that draws its order: first operations that only read, and calls that only read and draw, in any order; then the others, one by one. One walk in the order of the text serves every order. -/
import Derived.StillTail
import Derived.Deep.QuietTactic
import Derived.Still
import Derived.Test.YtmclmfhimdppjaaRows
import Derived.Test.YtmclmfhimdppjaaKAR
import Derived.Test.YtmclmfhimdppjaaKAB
import Derived.Test.YtmclmfhimdppjaaKAJ
import Derived.StillTailTactics
namespace Go.Proofs.Ytmclmfhimdppjaa
open Go

section
variable {P : Program} {ops : Array Oper} {md : Region.Mode} {C : World → Prop}

/-- f operations come up, all ahead of number n, whatever their order; then L holds. -/
def headQ (P : Program) (md : Region.Mode) (ops : Array Oper) (C : World → Prop) (n : Nat) (L : Array Bool → Act → Prop) : Nat → Array Bool → Act → Prop
  | 0, seen, a => L seen a
  | f + 1, seen, a => Region.ready md ops seen ≠ [] ∧ ∀ i, i ∈ Region.ready md ops seen → i < n ∧ qOp P ops C i (fun b => headQ P md ops C n L f (seen.setIfInBounds i true) b) a

theorem any_of_headQ {n g : Nat} {L : Array Bool → Act → Prop} {R : Exit → Act → World → Prop} (hL : ∀ seen a w, C w → L seen a → wpAny P md ops R g seen a w) (f : Nat) :
    ∀ (seen : Array Bool) (a : Act) (w : World), C w → headQ P md ops C n L f seen a → wpAny P md ops R (f + g) seen a w := by
  induction f with
  | zero => intro seen a w hw h; rw [Nat.zero_add]; exact hL _ _ _ hw h
  | succ f ih =>
    intro seen a w hw h
    rw [Nat.add_right_comm]
    refine ⟨fun e => (h.1 e).elim, fun i hi => ?_⟩
    exact wpOp_of_qOp hw (fun b w' hw' hb => ih _ b w' hw' hb) (h.2 i hi).2

/-- The next operation of the text may come first. -/
theorem headQ_first {n i : Nat} {oi : Oper} {v : Value} {L : Array Bool → Act → Prop} (hi : ops[i]? = some oi) (hsel : ∀ (j : Nat) (o : Oper) cs b, ops[j]? = some o → o.op ≠ .select cs b)
    (hs : Region.sinkB md ops n = true) (hc : Region.chainB md ops n = true) (hn : n < ops.size) (hin : i < n) (hend : ∀ seen a, L seen a → ∀ j, j ∈ Region.ready md ops seen → n ≤ j) (f : Nat) :
    ∀ (seen : Array Bool) (a : Act), HeadInv md ops n seen → (∀ j oj, ops[j]? = some oj → j ≠ i → seen.getD j true = false → (∀ e ∈ oj.after, Region.binds md e = true → e.on ≠ i) → oi.apart ops oj = true) →
      i ∈ Region.ready md ops seen → YieldsIn P ops C oi v a → headQ P md ops C n L f (seen.setIfInBounds i true) (a.put oi.dst v) → headQ P md ops C n L (f + 1) seen a := by
  induction f with
  | zero =>
    intro seen a inv _ hr hy H
    refine ⟨List.ne_nil_of_mem hr, fun j hj => ?_⟩
    have hjn : j < n := Nat.lt_of_not_le fun hle => tail_waits hs hc hn inv _ i rfl hin (mem_ready.1 hr).1 j hle hj
    refine ⟨hjn, ?_⟩
    rcases Decidable.em (j = i) with e | e
    · rw [e]; exact hy.qOp hi H
    · exact absurd (hend _ _ H j (ready_mono hj e)) (Nat.not_le_of_lt hjn)
  | succ f ih =>
    intro seen a inv hfree hr hy H
    have hun := (mem_ready.1 hr).1
    refine ⟨List.ne_nil_of_mem hr, fun j hj => ?_⟩
    have hjn : j < n := Nat.lt_of_not_le fun hle => tail_waits hs hc hn inv _ i rfl hin hun j hle hj
    refine ⟨hjn, ?_⟩
    rcases Decidable.em (j = i) with e | e
    · rw [e]; exact hy.qOp hi H
    obtain ⟨hju, oj, hoj, hall⟩ := mem_ready.1 hj
    have hno : ∀ x ∈ oj.after, Region.binds md x = true → x.on ≠ i := fun x hx hb he => by
      have := hall x hx hb
      rw [he, getD_both hun] at this
      exact Bool.noConfusion this
    have h1 := (H.2 j (ready_mono hj e)).2
    have h2 := qOp_put hoj (hfree j oj hoj e hju hno) (fun cs b => hsel i oi cs b hi) (fun cs b => hsel j oj cs b hoj) hy h1
    refine qOp_mono (fun b hb => ?_) h2
    refine ih _ b (inv.set hj hjn) (fun k ok hk hki hku hkn => ?_) (ready_mono hr (Ne.symm e)) hb.1 ?_
    · refine hfree k ok hk hki ?_ hkn
      rcases Decidable.em (j = k) with ejk | ejk
      · rw [← ejk]; exact hju
      · rwa [getD_set_ne true ejk] at hku
    · rw [Array.setIfInBounds_comm _ _ e]
      exact hb.2

theorem headQ_lex {n g : Nat} {K : Act → Prop} (hsel : Region.noSelect ops = true) (hs : Region.sinkB md ops n = true) (hc : Region.chainB md ops n = true) (hn : n < ops.size) (l : List Oper) :
    ∀ (k : Nat) (seen : Array Bool) (a : Act), (∀ j, j < l.length → l[j]? = ops[k + j]?) → k + l.length = n → HeadInv md ops n seen → Region.lexHead md ops g l.length k seen = true → wpQuiet P ops C K l a →
      headQ P md ops C n (fun s b => Region.seqB md ops g n s = true ∧ K b) l.length seen a := by
  induction l with
  | nil =>
    intro k seen a _ hk _ hB h
    obtain rfl : k = n := hk
    exact ⟨hB, h⟩
  | cons o l ih =>
    intro k seen a hl hk inv hB h
    have h0 : ops[k]? = some o := (hl 0 (Nat.succ_pos _)).symm
    rw [List.length_cons] at hk
    simp only [List.length_cons, Region.lexHead, Bool.and_eq_true, List.contains_iff_mem] at hB
    have hkn : k < n := by omega
    have hq : qOp P ops C k (wpQuiet P ops C K l) a := by unfold qOp; rw [h0]; exact h
    obtain ⟨v, hy, hK⟩ := yieldsIn_of_qOp h0 hq
    refine headQ_first h0 (Region.noSelect_spec hsel) hs hc hn hkn (fun s b hL => seqB_ready hL.1) l.length seen a inv (Region.free_spec h0 hB.1.2) hB.1.1 hy ?_
    refine ih (k + 1) _ _ (fun j hj => ?_) (by omega) (inv.set hB.1.1 hkn) hB.2 hK
    have := hl (j + 1) (by simpa using hj)
    rw [show k + 1 + j = k + (j + 1) by omega, ← this]
    rfl

/-- The region: its first n operations quiet, the others behind them in the order of the text. -/
theorem wp_region_quiet_tail {id : Nat} {Q : Exit → Act → World → Prop} {a : Act} {w : World} {l : List Oper} (n : Nat) (hm : P.follows .mixedOrders = true) (hB : Region.lexTailB .any l.toArray n = true)
    (h : wpQuiet P l.toArray (fun w' => ∃ d, w' = w.drewN d) (fun b => ∀ w', (∃ d, w' = w.drewN d) → wpList P l.toArray Q (l.drop n) b w') (l.take n) a) : (Code.region id l.toArray true).wp P Q a w := by
  simp only [Region.lexTailB, Bool.and_eq_true, decide_eq_true_eq] at hB
  obtain ⟨⟨⟨⟨hsel, hn⟩, hs⟩, hc⟩, hlex⟩ := hB
  have hn' : n < l.length := hn
  have htl : (l.take n).length = n := by rw [List.length_take]; omega
  have hsz : l.toArray.size - n = (l.drop n).length := by rw [List.length_drop]; rfl
  rw [hsz] at hlex
  have inv0 : HeadInv .any l.toArray n (Array.replicate l.toArray.size false) :=
    ⟨Array.size_replicate, fun j _ _ hj => (by rw [getD_replicate_false] at hj; exact Bool.noConfusion hj), fun t _ ht => getD_in (by rw [Array.size_replicate]; exact ht) (getD_replicate_false _ _)⟩
  have H := headQ_lex (md := .any) hsel hs hc hn (l.take n) 0 _ a (fun j hj => by rw [htl] at hj; simp [hj]) (by omega) inv0 (by rw [htl]; exact hlex) h
  have H2 := any_of_headQ (R := Q) (g := (l.drop n).length) (fun s b w' hw' hL => wpAny_of_seq (l.drop n) n s b w' (fun j => by simp [List.getElem?_drop]) hL.1 (hL.2 w' hw')) _ _ _ { w with drawn := w.drawn + 1 } ⟨1, rfl⟩ H
  refine wp_region_any hm ?_
  rw [htl, ← hsz, show n + (l.toArray.size - n) = l.toArray.size by have : l.toArray.size = l.length := rfl; omega] at H2
  exact H2
end
end Go.Proofs.Ytmclmfhimdppjaa

/- Package head: small functions. -/
namespace Go.Proofs.Ytmclmfhimdppjaa
open Go.RowKit

def LW (a W : Int) : Prop := W = 1 ∨ (W = 2 ∧ 256 ≤ a) ∨ (W = 4 ∧ 65536 ≤ a) ∨ (W = 8 ∧ 4294967296 ≤ a)
theorem head_least (a : Int) (h0 : 0 ≤ a) (h1 : a < 18446744073709551616) (w : World) :
    Calls Try.prog 64 #[.int .u64 a] w fun e w' => e = .returned (.int .i64 (leastW a)) ∧ w = w' := by
  by_cases h24 : a < 24
  · have e : leastW a = 0 := by unfold leastW; rw [if_pos h24]
    rw [e]
    clear e
    go_enter Try.func64, Try.ntmps64
    go_wp2
    go_ret
    exact ⟨rfl, rfl⟩
  · have HL : Hid (∀ W, LW a W → (W = 1 → a < 256) → (W = 2 → a < 65536) → (W = 4 → a < 4294967296) → W = leastW a) := by
      intro W hW h1 h2 h4
      unfold leastW
      rcases hW with rfl | ⟨rfl, _⟩ | ⟨rfl, _⟩ | ⟨rfl, _⟩ <;> (repeat' split) <;> omega
    go_enter Try.func64, Try.ntmps64
    go_wp2
    go_loop [3] (fun y => ∃ W : Int, y = .int .i64 W ∧ LW a W) (fun y => 8 - (intOf y).toNat)
    case atStart => exact ⟨1, rfl, Or.inl rfl⟩
    case round =>
      obtain ⟨W, rfl, hW⟩ := hrel
      have HW := Lib.hid hW
      rcases hW with rfl | ⟨rfl, hb⟩ | ⟨rfl, hb⟩ | ⟨rfl, hb⟩
      · by_cases hq : a / 256 = 0
        · go_wp2
          go_ret
          exact ⟨ret_num (HL.out _ HW.out (by omega) (by omega) (by omega)), rfl⟩
        · have hq' : (a / 256 == 0) = false := by simp [hq]
          go_wp2
          go_round
          case rel => exact ⟨2, rfl, Or.inr (Or.inl ⟨rfl, by omega⟩)⟩
          case measure => simp [intOf]
      · by_cases hq : a / 65536 = 0
        · go_wp2
          go_ret
          exact ⟨ret_num (HL.out _ HW.out (by omega) (by omega) (by omega)), rfl⟩
        · go_wp2
          go_round
          case rel => exact ⟨4, rfl, Or.inr (Or.inr (Or.inl ⟨rfl, by omega⟩))⟩
          case measure => simp [intOf]
      · by_cases hq : a / 4294967296 = 0
        · go_wp2
          go_ret
          exact ⟨ret_num (HL.out _ HW.out (by omega) (by omega) (by omega)), rfl⟩
        · go_wp2
          go_round
          case rel => exact ⟨8, rfl, Or.inr (Or.inr (Or.inr ⟨rfl, by omega⟩))⟩
          case measure => simp [intOf]
      · go_wp2
        go_ret
        exact ⟨ret_num (HL.out _ HW.out (by omega) (by omega) (by omega)), rfl⟩

theorem hblk {w : World} {g : Nat} {t : TypeId} {m W a l e : Int} {o : Bool} (h : Blk w g t (hcells ⟨m, W, a, l, o, e⟩)) :
    w.cell? ⟨g, 0, none⟩ = some (.int .i64 m) ∧ w.cell? ⟨g, 1, none⟩ = some (.int .i64 W) ∧ w.cell? ⟨g, 2, none⟩ = some (.int .u64 a) ∧ w.cell? ⟨g, 3, none⟩ = some (.int .i64 l) ∧ w.cell? ⟨g, 4, none⟩ = some (.bool o) ∧ w.cell? ⟨g, 5, none⟩ = some (.int .i64 e) ∧ (∀ i, w.frozen? ⟨g, i, none⟩ = false) :=
  ⟨h.cell 0, h.cell 1, h.cell 2, h.cell 3, h.cell 4, h.cell 5, h.free⟩
theorem hcells_one (q : HQ) : (hcells q).all (·.oneCell') = true := by
  rw [Array.all_eq_true_iff_forall_mem]
  intro x hx
  simp [hcells] at hx
  rcases hx with rfl | rfl | rfl | rfl | rfl | rfl <;> rfl
theorem hblk_put {w : World} {g : Nat} {t : TypeId} {q : HQ} (h : Blk w g t (hcells q)) (m W a l : Int) (o : Bool) (e : Int) :
    Blk ((((((w.setCell ⟨g, 0, none⟩ (.int .i64 m)).setCell ⟨g, 1, none⟩ (.int .i64 W)).setCell ⟨g, 2, none⟩ (.int .u64 a)).setCell ⟨g, 3, none⟩ (.int .i64 l)).setCell ⟨g, 4, none⟩ (.bool o)).setCell ⟨g, 5, none⟩ (.int .i64 e)) g t (hcells ⟨m, W, a, l, o, e⟩) :=
  (((((h.put 0 (.int .i64 m)).put 1 (.int .i64 W)).put 2 (.int .u64 a)).put 3 (.int .i64 l)).put 4 (.bool o)).put 5 (.int .i64 e)
theorem honly_put (g : Nat) (w : World) (x0 x1 x2 x3 x4 x5 : Value) :
    Only g w ((((((w.setCell ⟨g, 0, none⟩ x0).setCell ⟨g, 1, none⟩ x1).setCell ⟨g, 2, none⟩ x2).setCell ⟨g, 3, none⟩ x3).setCell ⟨g, 4, none⟩ x4).setCell ⟨g, 5, none⟩ x5) :=
  ((((((Only.refl g w).put 0 _).put 1 _).put 2 _).put 3 _).put 4 _).put 5 _
theorem and31 (c : Int) (h0 : 0 ≤ c) (h1 : c < 256) : bits .and .u8 c 31 = c % 32 := by
  obtain ⟨n, rfl⟩ := Int.eq_ofNat_of_zero_le h0
  have h : ∀ k : Fin 256, bits .and .u8 (k.val : Int) 31 = (k.val : Int) % 32 := by decide +kernel
  exact h ⟨n, by omega⟩
set_option maxRecDepth 100000 in
set_option maxHeartbeats 4000000 in
theorem head_beg (c m i : Int) (hm : c / 32 = m) (HA : bits .and .u8 c 31 = i) (hm0 : 0 ≤ m) (hm7 : m ≤ 7) (hi0 : 0 ≤ i) (hi1 : i < 32) (q : HQ) (w : World) (g : Nat) (hg : Blk w g 60 (hcells q)) :
    Calls Try.prog 52 #[.pointer (some ⟨g, 0, none⟩), .int .u8 c] w fun e w' => e = .returned (.tuple #[]) ∧ Blk w' g 60 (hcells (hbeg m i)) ∧ Only g w w' := by
  have HS := Lib.hid (run_store_all (P := Try.prog) (ty := 60) (c' := hcells ⟨m, 0, 0, 0, true, 0⟩) hg (by kernel_rfl) rfl (hcells_one _))
  have B1 := hg.setRow (hcells ⟨m, 0, 0, 0, true, 0⟩)
  have O1 := Lib.hid ((Only.refl g w).setRow (hcells ⟨m, 0, 0, 0, true, 0⟩))
  generalize w.setRow g (hcells ⟨m, 0, 0, 0, true, 0⟩) = w1 at *
  obtain ⟨c0, c1, c2, c3, c4, c5, fz⟩ := hblk B1
  have f1 := fz 1
  have f2 := fz 2
  have f3 := fz 3
  have f5 := fz 5
  have HB1 := Lib.hid B1
  clear fz hg B1
  by_cases hs : i < 24
  · have e1 : hbeg m i = ⟨m, 0, i, 0, true, 0⟩ := by unfold hbeg; rw [if_neg (by omega), if_pos hs]
    rw [e1]
    clear e1
    go_enter Try.func52, Try.ntmps52
    go_wp2_with ((with_reducible refine is_store 60 rfl ?_); (with_reducible refine wpList_store_run rfl rfl HS.out ?_ ?_ ?_); (· rfl); (· rfl))
    go_end0
    exact ⟨rfl, HB1.out.put 2 (.int .u64 i), O1.out.put 2 _⟩
  by_cases h28 : 28 ≤ i
  · by_cases h31 : i = 31
    · subst h31
      by_cases hm25 : 2 ≤ m ∧ m ≤ 5
      · have e1 : hbeg m 31 = ⟨m, 0, 0, 0, true, 5⟩ := by unfold hbeg hbad; rw [if_pos (by decide), if_neg (by decide), if_pos ⟨rfl, hm25⟩]
        obtain ⟨hm2, hm5⟩ := hm25
        rw [e1]
        clear e1
        go_enter Try.func52, Try.ntmps52
        go_wp2_with ((with_reducible refine is_store 60 rfl ?_); (with_reducible refine wpList_store_run rfl rfl HS.out ?_ ?_ ?_); (· rfl); (· rfl))
        (try simp only [Exit.inBlock, Exit.then])
        refine bodyPost_ret (results_none rfl _ _ _) rfl ?_
        exact ⟨rfl, HB1.out.put 5 (.int .i64 5), O1.out.put 5 _⟩
      · have e1 : hbeg m 31 = ⟨m, 0, 0, 0, true, 2⟩ := by unfold hbeg hbad; rw [if_pos (by decide), if_neg (by decide), if_neg (fun h => hm25 h.2)]
        rw [e1]
        clear e1
        by_cases hm2 : 2 ≤ m
        · have hm5 : ¬ m ≤ 5 := fun h => hm25 ⟨hm2, h⟩
          clear hm25
          go_enter Try.func52, Try.ntmps52
          go_wp2_with ((with_reducible refine is_store 60 rfl ?_); (with_reducible refine wpList_store_run rfl rfl HS.out ?_ ?_ ?_); (· rfl); (· rfl))
          go_end0
          exact ⟨rfl, HB1.out.put 5 (.int .i64 2), O1.out.put 5 _⟩
        · clear hm25
          go_enter Try.func52, Try.ntmps52
          go_wp2_with ((with_reducible refine is_store 60 rfl ?_); (with_reducible refine wpList_store_run rfl rfl HS.out ?_ ?_ ?_); (· rfl); (· rfl))
          go_end0
          exact ⟨rfl, HB1.out.put 5 (.int .i64 2), O1.out.put 5 _⟩
    · have e1 : hbeg m i = ⟨m, 0, 0, 0, true, 2⟩ := by unfold hbeg hbad; rw [if_pos h28, if_neg (by omega), if_neg (fun h => h31 h.1)]
      rw [e1]
      clear e1
      have h3 : i = 28 ∨ i = 29 ∨ i = 30 := by omega
      clear h28 h31 hs
      rcases h3 with rfl | rfl | rfl
      all_goals
        go_enter Try.func52, Try.ntmps52
        go_wp2_with ((with_reducible refine is_store 60 rfl ?_); (with_reducible refine wpList_store_run rfl rfl HS.out ?_ ?_ ?_); (· rfl); (· rfl))
        go_end0
        exact ⟨rfl, HB1.out.put 5 (.int .i64 2), O1.out.put 5 _⟩
  · rcases hwid_of i (by omega) (by omega) with ⟨rfl, hw⟩ | ⟨rfl, hw⟩ | ⟨rfl, hw⟩ | ⟨rfl, hw⟩
    · have e1 : hbeg m 24 = ⟨m, 1, 0, 1, true, 0⟩ := rfl
      rw [e1]
      clear e1 hw hs h28
      go_enter Try.func52, Try.ntmps52
      go_wp2_with ((with_reducible refine is_store 60 rfl ?_); (with_reducible refine wpList_store_run rfl rfl HS.out ?_ ?_ ?_); (· rfl); (· rfl))
      go_end0
      exact ⟨rfl, (HB1.out.put 1 (.int .i64 1)).put 3 (.int .i64 1), (O1.out.put 1 _).put 3 _⟩
    · have e1 : hbeg m 25 = ⟨m, 2, 0, 2, true, 0⟩ := rfl
      rw [e1]
      clear e1 hw hs h28
      go_enter Try.func52, Try.ntmps52
      go_wp2_with ((with_reducible refine is_store 60 rfl ?_); (with_reducible refine wpList_store_run rfl rfl HS.out ?_ ?_ ?_); (· rfl); (· rfl))
      go_end0
      exact ⟨rfl, (HB1.out.put 1 (.int .i64 2)).put 3 (.int .i64 2), (O1.out.put 1 _).put 3 _⟩
    · have e1 : hbeg m 26 = ⟨m, 4, 0, 4, true, 0⟩ := rfl
      rw [e1]
      clear e1 hw hs h28
      go_enter Try.func52, Try.ntmps52
      go_wp2_with ((with_reducible refine is_store 60 rfl ?_); (with_reducible refine wpList_store_run rfl rfl HS.out ?_ ?_ ?_); (· rfl); (· rfl))
      go_end0
      exact ⟨rfl, (HB1.out.put 1 (.int .i64 4)).put 3 (.int .i64 4), (O1.out.put 1 _).put 3 _⟩
    · have e1 : hbeg m 27 = ⟨m, 8, 0, 8, true, 0⟩ := rfl
      rw [e1]
      clear e1 hw hs h28
      go_enter Try.func52, Try.ntmps52
      go_wp2_with ((with_reducible refine is_store 60 rfl ?_); (with_reducible refine wpList_store_run rfl rfl HS.out ?_ ?_ ?_); (· rfl); (· rfl))
      go_end0
      exact ⟨rfl, (HB1.out.put 1 (.int .i64 8)).put 3 (.int .i64 8), (O1.out.put 1 _).put 3 _⟩
theorem head_begin (c : Int) (h0 : 0 ≤ c) (h1 : c < 256) (q : HQ) (w : World) (g : Nat) (hg : Blk w g 60 (hcells q)) :
    Calls Try.prog 52 #[.pointer (some ⟨g, 0, none⟩), .int .u8 c] w fun e w' => e = .returned (.tuple #[]) ∧ Blk w' g 60 (hcells (hbegin c)) ∧ Only g w w' :=
  head_beg c (c / 32) (c % 32) rfl (and31 c h0 h1) (by omega) (by omega) (by omega) (by omega) q w g hg

set_option maxHeartbeats 1000000 in
theorem head_follow (c : Int) (h0 : 0 ≤ c) (h1 : c < 256) (q : HQ) (hok : HOk q) (hl : 0 < q.left) (w : World) (g : Nat) (hg : Blk w g 60 (hcells q)) :
    Calls Try.prog 51 #[.pointer (some ⟨g, 0, none⟩), .int .u8 c] w fun e w' => e = .returned (.tuple #[]) ∧ Blk w' g 60 (hcells (hfollow q c)) ∧ Only g w w' := by
  obtain ⟨m, W, a, l, o, e⟩ := q
  obtain ⟨ha0, ha1, hl0, hl8⟩ := hok
  dsimp only at ha0 ha1 hl0 hl8 hl
  obtain ⟨c0, c1, c2, c3, c4, c5, fz⟩ := hblk hg
  have f2 := fz 2
  have f3 := fz 3
  have f5 := fz 5
  clear fz
  have HO := or_step64 a c ha0 ⟨h0, h1⟩
  rw [← IntKind.wrap_u64] at HO
  have hb0 : 0 ≤ (a * 256 + c) % 18446744073709551616 := Int.emod_nonneg _ (by decide)
  have hb1 : (a * 256 + c) % 18446744073709551616 < 18446744073709551616 := Int.emod_lt_of_pos _ (by decide)
  have HB := Lib.hid hg
  unfold hfollow
  dsimp only
  generalize (a * 256 + c) % 18446744073709551616 = x at *
  clear hg
  by_cases hm : m = 7
  · subst hm
    by_cases hW : W = 1
    · subst hW
      by_cases hx : x < 32
      · rw [if_pos ⟨rfl, rfl, hx⟩]
        go_enter Try.func51, Try.ntmps51
        go_wp2_with fail
        go_end0
        exact ⟨rfl, ((HB.out.put 2 (.int .u64 x)).put 3 (.int .i64 (l - 1))).put 5 (.int .i64 2), (((Only.refl g w).put 2 _).put 3 _).put 5 _⟩
      · rw [if_neg (fun h => hx h.2.2)]
        go_enter Try.func51, Try.ntmps51
        go_wp2_with fail
        go_end0
        exact ⟨rfl, (HB.out.put 2 (.int .u64 x)).put 3 (.int .i64 (l - 1)), ((Only.refl g w).put 2 _).put 3 _⟩
    · rw [if_neg (fun h => hW h.2.1)]
      go_enter Try.func51, Try.ntmps51
      go_wp2_with fail
      go_end0
      exact ⟨rfl, (HB.out.put 2 (.int .u64 x)).put 3 (.int .i64 (l - 1)), ((Only.refl g w).put 2 _).put 3 _⟩
  · rw [if_neg (fun h => hm h.1)]
    go_enter Try.func51, Try.ntmps51
    go_wp2_with fail
    go_end0
    exact ⟨rfl, (HB.out.put 2 (.int .u64 x)).put 3 (.int .i64 (l - 1)), ((Only.refl g w).put 2 _).put 3 _⟩

end Go.Proofs.Ytmclmfhimdppjaa
