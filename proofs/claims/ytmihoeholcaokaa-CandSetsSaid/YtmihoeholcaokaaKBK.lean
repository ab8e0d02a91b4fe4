/- Package cand: the document's example. -/
import Derived.Test.YtmihoeholcaokaaKBJ
import Derived.Test.YtmihoeholcaokaaKAO
import Derived.Test.YtmihoeholcaokaaKAJ
import Derived.Test.YtmihoeholcaokaaKAF
import Derived.Sort.CutIn
namespace Go.Proofs.Ytmihoeholcaokaa
open Go.RowKit

/-- All that lay stands. -/
structure Gw (w W : World) : Prop where
  b : Below w.heap.size w W
theorem Gw.refl (w : World) : Gw w w := ⟨Below.refl _ _⟩
theorem Gw.drew {w W : World} (h : Gw w W) : Gw w W.drew := ⟨below_drawn h.b⟩
theorem Gw.alloc {w W : World} (h : Gw w W) (o : Obj) : Gw w (W.alloc o) := ⟨h.b.alloc h.b.size o⟩
theorem Gw.on {w W W' : World} (h : Gw w W) (hb : Below W.heap.size W W') : Gw w W' := ⟨h.b.trans (hb.mono h.b.size)⟩
theorem of_one (c : Int) (b : Nat) (W : World) (h : Blk W b 3 #[.int .i64 c]) : Calls Try.prog 5 #[.slice (some ⟨b, 0, none⟩) 1 1] W fun e w' => e = .returned (.agg (setC (ofB' [c]))) ∧ Below W.heap.size W w' :=
  cand_Of [c] (some ⟨b, 0, none⟩) 1 W.heap.size W (Nat.le_refl _) (fun _ => ⟨b, 0, rfl, h.lt, fun i hi => by
    obtain rfl : i = 0 := by have : i < 1 := hi; omega
    rw [h.cell]; rfl⟩) (by simp)
theorem of_0 (b : Nat) (W : World) (h : Blk W b 3 #[.int .i64 0]) : Calls Try.prog 5 #[.slice (some ⟨b, 0, none⟩) 1 1] W fun e w' => e = .returned (.agg #[.int .u64 1, .int .u64 0, .int .u64 0, .int .u64 0]) ∧ Below W.heap.size W w' := by
  have := of_one 0 b W h
  rwa [show ofB' [0] = 1 by decide, setC_1] at this
theorem of_2 (b : Nat) (W : World) (h : Blk W b 3 #[.int .i64 2]) : Calls Try.prog 5 #[.slice (some ⟨b, 0, none⟩) 1 1] W fun e w' => e = .returned (.agg #[.int .u64 4, .int .u64 0, .int .u64 0, .int .u64 0]) ∧ Below W.heap.size W w' := by
  have := of_one 2 b W h
  rwa [show ofB' [2] = 4 by decide, setC_4] at this
theorem aw19_at (w : World) : ∃ w3, ((w.alloc (.cells #[.int .i64 1, .int .i64 2] 3)).alloc (.cells (aw19n w.heap.size) 42)).alloc (.cells #[.slice (some ⟨w.heap.size + 1, 0, none⟩) 3 3] 45) = w3 ∧ Aw w3 w.heap.size (w.heap.size + 1) ∧ Blk w3 (w.heap.size + 2) 45 #[.slice (some ⟨w.heap.size + 1, 0, none⟩) 3 3] ∧ Below w.heap.size w w3 := by
  refine ⟨_, rfl, ⟨((Blk.fresh w _ _).alloc _).alloc _, (Blk.freshAt (w.alloc _) _ _ _ (by simp)).alloc _⟩, Blk.freshAt _ _ _ _ (by simp), ((below_alloc w _).alloc (by simp) _).alloc (by simp; omega) _⟩
theorem eq_set4 (W : World) : (Op.equalIn 10000 27 (.agg #[.int .u64 4, .int .u64 0, .int .u64 0, .int .u64 0]) (.agg #[.int .u64 4, .int .u64 0, .int .u64 0, .int .u64 0])).run Try.prog W = .ok true W := by kernel_rfl
set_option maxRecDepth 100000 in
set_option maxHeartbeats 16000000 in
theorem cand_awake (w : World) : Calls Try.prog 4 #[] w fun e w' => e = .returned (.bool true) ∧ Below w.heap.size w w' := by
  obtain ⟨w3, hw3, hA, bS, S⟩ := aw19_at w
  have HB := Lib.hid (fun W (h : Gw w3 W) => cand_Begin w.heap.size (w.heap.size + 1) W (hA.on h.b))
  have HHA := Lib.hid (fun n W => cand_Has 4 n W)
  unfold hd19 at HB
  simp only [setC_4] at HB HHA
  have HS := Lib.hid S
  have HBS := Lib.hid bS
  have c0 := sblk bS
  have r1 := sblk (HBS.out.alloc (.cells #[.int .i64 0] 3))
  have r2 := sblk (HBS.out.alloc (.cells #[.int .i64 2] 3))
  have r3 := sblk ((HBS.out.alloc (.cells #[.int .i64 0] 3)).alloc (.cells #[.int .i64 2] 3))
  have r4 := sblk ((HBS.out.alloc (.cells #[.int .i64 2] 3)).alloc (.cells #[.int .i64 0] 3))
  have heq := fun W => eq_set4 W
  have h42 : hasB 4 2 = true := by decide
  have h41 : hasB 4 1 = false := by decide
  have hfol : Try.prog.follows Departure.mixedOrders = true := by kernel_rfl
  unfold aw19n at hw3
  clear hA bS S
  go_enter Try.func4, Try.ntmps4
  go_wp2_with fail
  go_region_with (first
    | (go_at_call 5; refine (of_0 _ _ ?hb).mono ?_; (case hb => ((repeat (first | (with_reducible exact Blk.fresh _ _ _) | (with_reducible refine Blk.freshAt _ _ _ _ ?_; simp; done) | (with_reducible refine Blk.drew ?_) | (with_reducible refine Blk.alloc ?_ _) | (with_reducible refine Blk.on ?_ (by assumption)))); done)); rintro e wa ⟨rfl, hba⟩; have hgwa : Gw w3 wa := (by (repeat (first | (with_reducible exact Gw.refl _) | (with_reducible refine Gw.drew ?_) | (with_reducible refine Gw.alloc ?_ _) | (with_reducible refine Gw.on ?_ (by assumption)))); done); have ccwa := sblk (HBS.out.on hgwa.b); have cxwa := sblk ((HBS.out.on hgwa.b).alloc (.cells #[.int .i64 0] 3)); have cywa := sblk ((HBS.out.on hgwa.b).alloc (.cells #[.int .i64 2] 3)); clear hgwa)
    | (go_at_call 5; refine (of_2 _ _ ?hb).mono ?_; (case hb => ((repeat (first | (with_reducible exact Blk.fresh _ _ _) | (with_reducible refine Blk.freshAt _ _ _ _ ?_; simp; done) | (with_reducible refine Blk.drew ?_) | (with_reducible refine Blk.alloc ?_ _) | (with_reducible refine Blk.on ?_ (by assumption)))); done)); rintro e wb ⟨rfl, hbb⟩; have hgwb : Gw w3 wb := (by (repeat (first | (with_reducible exact Gw.refl _) | (with_reducible refine Gw.drew ?_) | (with_reducible refine Gw.alloc ?_ _) | (with_reducible refine Gw.on ?_ (by assumption)))); done); have ccwb := sblk (HBS.out.on hgwb.b); have cxwb := sblk ((HBS.out.on hgwb.b).alloc (.cells #[.int .i64 0] 3)); have cywb := sblk ((HBS.out.on hgwb.b).alloc (.cells #[.int .i64 2] 3)); clear hgwb)
    | (go_at_call 12; refine (HB.out _ ?hg).mono ?_; (case hg => ((repeat (first | (with_reducible exact Gw.refl _) | (with_reducible refine Gw.drew ?_) | (with_reducible refine Gw.alloc ?_ _) | (with_reducible refine Gw.on ?_ (by assumption)))); done)); rintro e wc ⟨rfl, hbc⟩)
    | (go_at_call 6; refine (HHA.out _ _).mono ?_; (first | rw [h42] | rw [h41]); rintro e wd ⟨rfl, hbd⟩)
    | fail)
  all_goals
    have hgd : Gw w3 wd := (by (repeat (first | (with_reducible exact Gw.refl _) | (with_reducible refine Gw.drew ?_) | (with_reducible refine Gw.alloc ?_ _) | (with_reducible refine Gw.on ?_ (by assumption)))); done)
    have HW := Lib.hid (HS.out.trans (hgd.b.mono HS.out.size))
    clear hgd
    go_wp2_with fail
    go_ret
    first
      | exact ⟨rfl, HW.out⟩
      | exact ⟨rfl, below_drawn HW.out⟩
end Go.Proofs.Ytmihoeholcaokaa

/- Package cand: what the law lays: rows of Booleans. -/
namespace Go.Proofs.Ytmihoeholcaokaa
open Go.RowKit

/-- wp_cut_mask, in a fence. -/
theorem wpIn_cut_mask {F : Fence} {rm : Nat} {P : Program} {s : Code} {K : Act → World → Prop} {Q : Exit → Act → World → Prop} {l : List Value} {ds : List Deferred} {w : World} (bs : List Bool) (R : (Nat → Value) → World → Prop)
    (first : ∀ K' : Act → World → Prop, Hid (∀ (l' : List Value) (w' : World), keep bs l' = keep bs l → R (nth l') w' → K' ⟨l'.toArray, ds⟩ w') → s.wpIn F rm P (Exit.then K' Q) ⟨l.toArray, ds⟩ w)
    (rest : ∀ (t : Nat → Value) (w' : World), R t w' → K ⟨(mask t 0 bs l).toArray, ds⟩ w') : s.wpIn F rm P (Exit.then K Q) ⟨l.toArray, ds⟩ w := by
  refine wpIn_cut (fun a w' => ∃ t, a = ⟨(mask t 0 bs l).toArray, ds⟩ ∧ R t w') (fun a' w' h => ?_) (fun J K' hJ hK => ?_)
  · obtain ⟨t, rfl, hR⟩ := h
    exact rest t w' hR
  · refine first K' (fun l' w' hk hR => hK _ _ (hJ _ _ ⟨nth l', ?_, hR⟩))
    rw [← mask_keep (nth l') bs 0 l l' (fun i _ => by rw [Nat.zero_add]) hk]
/-- A loop over an iterator that wants something kept; it may be left by a break; the assignment of its variable reads the frame alone. -/
theorem wp_rangeBK {α : Type} {P : Program} {g : Operand} {ps : Array Tmp} {assign body : Code} {Q : Exit → Act → World → Prop} {a : Act} {w : World}
    {gf : Nat} {lb : Array Value} (hg : a.eval g = .func (.func gf) #[] lb) (eg : ∀ args w, (callFunc gf args).run P w = .ok (.enter gf args) w)
    {encs : α → Array Value} {G : List α → Prop} {n : Nat} {S Sp : List α → Prop} {N : Nat} {w0 : World} {Kp : World → Prop} (hseq : SeqK Kp P gf lb encs G (fun _ _ _ => True) n S Sp N w0) (hb0 : Below w0.heap.size w0 w) (hn : n ≤ w.heap.size) (hps : ∀ x, (encs x).size = ps.size)
    (I : List α → World → Prop) (Ix : List α → World → Prop) (b : Nat) (hI : ∀ s W1 W2, I s W1 → Below w.heap.size W1 W2 → I s W2) (hIx : ∀ s W1 W2, Ix s W1 → Below w.heap.size W1 W2 → Ix s W2) (hKp : ∀ s W1, I s W1 → Kp W1) (h0 : I [] w)
    (asg : Act → α → Act)
    (hassign : ∀ (l : Nat) (x : α) (W : World) (K : Act → World → Prop), K (asg a x) W →
      assign.wpIn (Fence.wide.inRound l) 0 P (Exit.then K (fun _ _ _ => False)) { tmps := (ps.zip (encs x)).foldl (fun t (p, v) => t.setIfInBounds p v) a.tmps, defers := [] } W)
    (hbody : ∀ (l : Nat) (pre : List α) (x : α) (W : World), I pre W → G (pre ++ [x]) → w.heap.size + 2 ≤ W.heap.size → pre.length < N → body.wpIn (Fence.wide.inRound l) 0 P (rPost n w.heap.size I (fun c s W => c = .exit b ∧ Ix s W) (pre ++ [x]) W) (asg a x) W)
    (hQ : ∀ a W, Q .normal a W → Q (.exit b) a W)
    (hout : ∀ (W : World), w.heap.size + 2 ≤ W.heap.size → ((∃ xs, S xs ∧ I xs W) ∨ (∃ pre, Sp pre ∧ Ix pre W)) → W.heap[w.heap.size]? = some (.deferred (some [])) → Q .normal { a with defers := { target := .collected w.heap.size, args := #[] } :: a.defers } W) :
    (Code.rangeFunc g ps assign body).wpIn Fence.wide 0 P Q a w := by
  refine wp_rangeK hg eg hseq hb0 hn hps I (fun c s W => c = .exit b ∧ Ix s W) hI (fun c s W1 W2 h hb => ⟨h.1, hIx s W1 W2 h.2 hb⟩) hKp h0 (fun x a' _ => a' = asg a x) (fun _ _ _ _ h => h) (fun l pre x W K h1 _ _ _ _ hK => hassign l x W K (hK _ _ (Rs.refl _ _ _) h1 rfl)) (fun l pre x a' W h1 h2 h3 h4 h5 => ?_) (fun xs W h1 h2 h3 h4 => hout W h1 (.inl ⟨xs, h2, h3⟩) h4) fun c pre W h1 h2 h3 h4 => ?_
  · subst h3
    exact hbody l pre x W h1 h2 h4 h5
  · obtain ⟨rfl, h3⟩ := h3
    exact wpIn_exit (hQ _ _ (hout W h1 (.inr ⟨pre, h2, h3⟩) h4))
/-- Block g has 256 Booleans, f. -/
def BF (W : World) (g : Nat) (f : Nat → Bool) : Prop := ∃ cs, Blk W g 4 cs ∧ ∀ i, i < 256 → cs[i]? = some (.bool (f i))
section
variable {W W' : World} {g : Nat} {f f' : Nat → Bool}
theorem BF.cell (h : BF W g f) {i : Nat} (hi : i < 256) : W.cell? ⟨g, i, none⟩ = some (.bool (f i)) := by
  obtain ⟨cs, h1, h2⟩ := h
  rw [h1.cell, h2 i hi]
theorem BF.free (h : BF W g f) (i : Nat) : W.frozen? ⟨g, i, none⟩ = false := by
  obtain ⟨cs, h1, h2⟩ := h
  exact h1.free i
theorem BF.lt (h : BF W g f) : g < W.heap.size := by
  obtain ⟨cs, h1, h2⟩ := h
  exact h1.lt
theorem BF.on (h : BF W g f) (hb : Below W.heap.size W W') : BF W' g f := by
  obtain ⟨cs, h1, h2⟩ := h
  exact ⟨cs, h1.on hb, h2⟩
theorem BF.below {B : Nat} (h : BF W g f) (hb : Below B W W') (hg : g < B) : BF W' g f := by
  obtain ⟨cs, h1, h2⟩ := h
  exact ⟨cs, h1.below hb hg, h2⟩
theorem BF.far (h : BF W g f) {p : Addr} (hp : g ≠ p.block) (u : Value) : BF (W.setCell p u) g f := by
  obtain ⟨cs, h1, h2⟩ := h
  exact ⟨cs, h1.far hp u, h2⟩
theorem BF.put (h : BF W g f) {i : Nat} (hi : i < 256) (hf : ∀ j, j < 256 → f' j = (f j || decide (j = i))) : BF (W.setCell ⟨g, i, none⟩ (.bool true)) g f' := by
  obtain ⟨cs, h1, h2⟩ := h
  refine ⟨_, h1.put i (.bool true), fun j hj => ?_⟩
  rw [Array.getElem?_setIfInBounds]
  have hs : i < cs.size := by have := h2 i hi; exact (Array.getElem?_eq_some_iff.1 this).1
  by_cases e : i = j
  · subst e
    rw [if_pos rfl, if_pos hs, hf i hi]
    simp
  · rw [if_neg e, h2 j hj, hf j hj, decide_eq_false (Ne.symm e), Bool.or_false]
theorem BF.congr (h : BF W g f) (hf : ∀ j, j < 256 → f' j = f j) : BF W g f' := by
  obtain ⟨cs, h1, h2⟩ := h
  exact ⟨cs, h1, fun j hj => by rw [h2 j hj, hf j hj]⟩
end
theorem BF.made (W : World) : BF (W.alloc (.cells (Array.replicate 256 (.bool false)) 4)) W.heap.size (fun _ => false) :=
  ⟨_, Blk.fresh _ _ _, fun i hi => by simp [hi]⟩
theorem two_made (w : World) : BF ((w.alloc (.cells (Array.replicate 256 (.bool false)) 4)).alloc (.cells (Array.replicate 256 (.bool false)) 4)).drew w.heap.size (fun _ => false) ∧ BF ((w.alloc (.cells (Array.replicate 256 (.bool false)) 4)).alloc (.cells (Array.replicate 256 (.bool false)) 4)).drew (w.heap.size + 1) (fun _ => false) ∧
    Below w.heap.size w ((w.alloc (.cells (Array.replicate 256 (.bool false)) 4)).alloc (.cells (Array.replicate 256 (.bool false)) 4)).drew := by
  have h1 := BF.made w
  have s1 := below_alloc w (.cells (Array.replicate 256 (.bool false)) 4)
  have h2 := BF.made (w.alloc (.cells (Array.replicate 256 (.bool false)) 4))
  have s2 := below_alloc (w.alloc (.cells (Array.replicate 256 (.bool false)) 4)) (.cells (Array.replicate 256 (.bool false)) 4)
  rw [World.size_alloc] at h2
  obtain ⟨c1, k1, l1⟩ := h1.on s2
  obtain ⟨c2, k2, l2⟩ := h2
  exact ⟨⟨c1, k1.drew, l1⟩, ⟨c2, k2.drew, l2⟩, below_drawn (s1.trans (s2.mono s1.size))⟩
/-- Whether number j is among them. -/
def inM (l : List Int) (j : Nat) : Bool := decide ((j : Int) ∈ l)
theorem inM_step (zs : List Int) {k : Nat} (hk : k < zs.length) (j : Nat) : inM (zs.take (k + 1)) j = (inM (zs.take k) j || decide ((j : Int) = zs.getD k 0)) := by
  unfold inM
  rw [List.take_add_one, List.getElem?_eq_getElem hk, show zs.getD k 0 = zs[k] by simp [List.getD, List.getElem?_eq_getElem hk]]
  simp only [Option.toList, List.mem_append, List.mem_singleton, Bool.decide_or]
theorem inM_of (zs : List Int) {j : Nat} (hj : j < 256) : (ofB' zs).testBit j = inM zs j := by
  have h := hasB_of zs (j : Int)
  rw [hasB_nat _ _ hj, decide_eq_true (by omega), decide_eq_true (by omega)] at h
  simpa [inM] using h
theorem three_sets (w : World) (B C : Nat) : ∃ W, ((w.alloc (.cells #[.int .u64 (wd B 0 : Nat), .int .u64 (wd B 1 : Nat), .int .u64 (wd B 2 : Nat), .int .u64 (wd B 3 : Nat)] 27)).alloc (.cells #[.int .u64 (wd C 0 : Nat), .int .u64 (wd C 1 : Nat), .int .u64 (wd C 2 : Nat), .int .u64 (wd C 3 : Nat)] 27)).alloc (.cells #[.slice none 0 0] 22) = W ∧
    Blk W w.heap.size 27 (setC B) ∧ Blk W (w.heap.size + 1) 27 (setC C) ∧ Blk W (w.heap.size + 2) 22 #[.slice none 0 0] ∧ Below w.heap.size w W ∧ W.heap.size = w.heap.size + 3 := by
  refine ⟨_, rfl, ((Blk.fresh w _ _).alloc _).alloc _, (Blk.freshAt (w.alloc _) _ _ _ (by simp)).alloc _, Blk.freshAt _ _ _ _ (by simp), ((below_alloc w _).alloc (by simp) _).alloc (by simp; omega) _, by simp⟩
theorem infoI : (Try.prog.info? 3).map (fun i => (i.zero, i.size, i.bytes)) = some (some (.int .i64 0), 1, 8) := by kernel_rfl
/-- One more number behind those of the call's own. -/
theorem push_i {w : World} {B : Nat} {v : Value} {zs : List Int} (h : Own w B .i64 3 v zs) (z : Int) (hb : zs.length + 1 ≤ 1099511627776) (hB : B ≤ w.heap.size) :
    ∃ v' w', (Builtin.append_ #[22, 22] 22 #[v, .slice (some ⟨w.heap.size, 0, none⟩) 1 1]).run Try.prog (w.alloc (.cells #[.int .i64 z] 3)) = .ok v' w' ∧ Own w' B .i64 3 v' (zs ++ [z]) ∧ Below B w w' := by
  have OW := h.alloc (.cells #[.int .i64 z] 3)
  have bN : Blk (w.alloc (.cells #[.int .i64 z] 3)) w.heap.size 3 (nums .i64 [z]) := Blk.fresh _ _ _
  obtain ⟨v', w', hR, hO', hB', hg⟩ := run_append_nums (P := Try.prog) (t := 22) (ty := 22) (cap := 1) Try.underlying22 infoI (by decide) OW bN.rd (fun h => by cases h) hb (by simp; omega)
  exact ⟨v', w', hR, hO', ((below_alloc w _).mono hB).trans hB'⟩
/-- Whether the first k are alike. -/
def sm (B C : Nat) : Nat → Bool
  | 0 => true
  | k + 1 => sm B C k && (B.testBit k == C.testBit k)
theorem sm_iff {B C : Nat} : ∀ {k : Nat}, sm B C k = true ↔ ∀ j, j < k → B.testBit j = C.testBit j
  | 0 => by simp [sm]
  | k + 1 => by
    rw [sm, Bool.and_eq_true, sm_iff, beq_iff_eq]
    exact ⟨fun ⟨h1, h2⟩ j hj => by
      rcases Nat.lt_succ_iff_lt_or_eq.1 hj with h | rfl
      · exact h1 j h
      · exact h2, fun h => ⟨fun j hj => h j (by omega), h k (by omega)⟩⟩
theorem sm_eq {B C : Nat} (hB : B < 2 ^ 256) (hC : C < 2 ^ 256) : sm B C 256 = decide (B = C) := by
  by_cases e : B = C
  · subst e
    rw [decide_eq_true rfl]
    exact sm_iff.2 fun _ _ => rfl
  · rw [decide_eq_false e]
    refine Bool.eq_false_iff.2 fun h => e (Nat.eq_of_testBit_eq fun j => ?_)
    by_cases hj : j < 256
    · exact sm_iff.1 h j hj
    · rw [Nat.testBit_lt_two_pow (Nat.lt_of_lt_of_le hB (Nat.pow_le_pow_right (by decide) (by omega))), Nat.testBit_lt_two_pow (Nat.lt_of_lt_of_le hC (Nat.pow_le_pow_right (by decide) (by omega)))]
theorem el_at {B : Nat} {pre : List Nat} {z : Nat} (h : (pre ++ [z]) <+: elB B 256) : (elB B 256)[pre.length]? = some z ∧ pre.length < (elB B 256).length := by
  obtain ⟨r, hr⟩ := h
  rw [← hr]
  simp
/-- The numbers as ints. -/
def elI (B k : Nat) : List Int := (elB B k).map fun (j : Nat) => (j : Int)
theorem elI_next {B k : Nat} (h : B.testBit k = true) : elI B (k + 1) = elI B k ++ [(k : Int)] := by unfold elI; rw [elB_next h, List.map_append]; rfl
theorem elI_same {B k : Nat} (h : B.testBit k = false) : elI B (k + 1) = elI B k := by unfold elI; rw [elB_same h]
theorem elI_len (B k : Nat) : (elI B k).length = pcn B k := by unfold elI; rw [List.length_map, elB_len]
theorem pcn_next {B k : Nat} (h : B.testBit k = true) : pcn B (k + 1) = pcn B k + 1 := by rw [pcn, h]; rfl
theorem pcn_same {B k : Nat} (h : B.testBit k = false) : pcn B (k + 1) = pcn B k := by rw [pcn, h]; rfl
set_option maxHeartbeats 2000000 in
theorem eq_quad (a b c d a' b' c' d' : Int) (w : World) : (Op.equalIn 10000 27 (.agg #[.int .u64 a, .int .u64 b, .int .u64 c, .int .u64 d]) (.agg #[.int .u64 a', .int .u64 b', .int .u64 c', .int .u64 d'])).run Try.prog w = .ok (a == a' && (b == b' && (c == c' && d == d'))) w := by
  have u3 := Try.underlying25
  have a3 := Try.isAgg25
  have z3 := Try.sizeOf25
  rw [show (10000 : Nat) = 9999 + 1 from rfl, Op.equalIn]
  simp only [Sem.run_bind, run_underlying Try.underlying27, Result.andThen_ok]
  simp only [Std.Legacy.Range.forIn_eq_forIn_range', Std.Legacy.Range.size, Nat.sub_zero, Nat.add_sub_cancel, Nat.div_one, List.range'_succ, List.range'_zero, List.forIn_cons, List.forIn_nil]
  go_simp
  by_cases h1 : a = a' <;> by_cases h2 : b = b' <;> by_cases h3 : c = c' <;> by_cases h4 : d = d' <;> simp [h1, h2, h3, h4]
theorem eq_sets {B C : Nat} (hB : B < 2 ^ 256) (hC : C < 2 ^ 256) (w : World) : (Op.equalIn 10000 27 (.agg (setC B)) (.agg (setC C))).run Try.prog w = .ok (sm B C 256) w := by
  rw [sm_eq hB hC]
  unfold setC
  rw [eq_quad]
  congr 1
  by_cases e : B = C
  · subst e; simp
  · rw [decide_eq_false e]
    refine Bool.eq_false_iff.2 fun h => e ?_
    simp only [Bool.and_eq_true, beq_iff_eq] at h
    exact wd_ext hB hC (by omega) (by omega) (by omega) (by omega)
end Go.Proofs.Ytmihoeholcaokaa
