
/- Package sha: a block is mixed. -/
import Derived.Test.YtnankgophbjioaaDoorShaC
import Derived.Deep.WholeRow
namespace Go.Proofs.YtnankgophbjioaaDoor
open Go.RowKit

/-- The cells of a digest. -/
def digC (added blk : List Int) (n : Int) : Array Value := nums .u32 added ++ nums .u8 blk ++ #[.int .u64 n]
theorem digC_size (added blk : List Int) (n : Int) : (digC added blk n).size = added.length + blk.length + 1 := by simp [digC, nums_size]; omega
theorem digC_added (added blk : List Int) (n : Int) (i : Nat) (h : i < added.length) : (digC added blk n)[i]? = some (.int .u32 (added.getD i 0)) := by
  unfold digC
  rw [Array.getElem?_append_left (by simp [nums_size]; omega), Array.getElem?_append_left (by simp [nums_size]; omega), nums_get _ _ _ h]
theorem digC_length (added blk : List Int) (n : Int) (ha : added.length = 8) (hb : blk.length = 64) : (digC added blk n)[72]? = some (.int .u64 n) := by
  unfold digC
  rw [Array.getElem?_append_right (by simp [nums_size]; omega)]
  simp [nums_size, ha, hb]
theorem digC_put (added blk : List Int) (n : Int) (i : Nat) (x : Int) (h : i < added.length) : (digC added blk n).setIfInBounds i (.int .u32 x) = digC (added.set i x) blk n := by
  unfold digC
  rw [Array.append_assoc, Array.append_assoc, Array.setIfInBounds_append_left (by simp [nums_size]; omega), nums_put]
theorem digC_putn (added blk : List Int) (n m : Int) (ha : added.length = 8) (hb : blk.length = 64) : (digC added blk n).setIfInBounds 72 (.int .u64 m) = digC added blk m := by
  unfold digC
  rw [Array.setIfInBounds_append_right (by simp [nums_size]; omega)]
  simp [nums_size, ha, hb]
/-- The state behind k of a block's 64 steps. -/
def rounds (W s : List Int) : Nat → List Int
  | 0 => s
  | k + 1 => stepL ((rootsL.getD k 0 + W.getD k 0) % 4294967296) (rounds W s k)
theorem rounds_zero (W s : List Int) : rounds W s 0 = s := rfl
theorem rounds_succ (W s : List Int) (k : Nat) : rounds W s (k + 1) = stepL ((rootsL.getD k 0 + W.getD k 0) % 4294967296) (rounds W s k) := rfl
theorem length_rounds (W s : List Int) : ∀ k, (rounds W s k).length = s.length
  | 0 => rfl
  | k + 1 => by rw [rounds_succ, length_stepL, length_rounds W s k]
theorem inL_rounds (W s : List Int) (h : InL s) : ∀ k, InL (rounds W s k)
  | 0 => h
  | k + 1 => by rw [rounds_succ]; exact inL_stepL _ _ (inL_rounds W s h k)
attribute [irreducible] rounds

set_option maxRecDepth 100000 in
set_option maxHeartbeats 1000000 in
theorem sha_mix (w : World) (g : Nat) (added blk : List Int) (n : Int) (ha : added.length = 8) (ia : InL added) (hb : blk.length = 64) (ib : ByteL blk) (hg : Blk w g 35 (digC added blk n)) (T : Tabs w) (hg2 : 2 ≤ g) :
    Calls Tryd.prog 17 #[.pointer (some ⟨g, 0, none⟩)] w fun e w' => e = .returned (.tuple #[]) ∧ Blk w' g 35 (digC (addL added (rounds (sched blk 64) (addL startL added) 64)) (pad [] 64) n) ∧ Only g w w' := by
  have HST := Lib.hid (sha_state w g added ha ia (fun i hi => (hg.cell i).trans (digC_added _ _ _ i (by omega))) T)
  go_enter Tryd.func17, Tryd.ntmps17
  go_wp2_with fail
  refine HST.out.mono ?_
  rintro e w1 ⟨rfl, hb1⟩
  have h8 : (addL startL added).length = 8 := by rw [length_addL _ _ (by rw [ha]; rfl)]; rfl
  have hz8 : (Tryd.prog.info? 31).map (·.size) = some (nums .u32 (addL startL added)).size := by rw [nums_size, h8]; exact size8
  have HS1 := Lib.hid (run_storeAt_new (P := Tryd.prog) w1 31 #[.int .u32 0, .int .u32 0, .int .u32 0, .int .u32 0, .int .u32 0, .int .u32 0, .int .u32 0, .int .u32 0] _ hz8 (by rw [nums_size, h8]; rfl) (nums_one _ _))
  have i8 := inL_addL startL added
  have HG := Lib.hid hg
  obtain ⟨s0, es0⟩ : ∃ s0, addL startL added = s0 := ⟨_, rfl⟩
  have ES0 := Lib.hid es0
  rw [es0] at h8 i8 HS1
  clear hz8 hg
  have hg1 : Blk w1 g 35 (digC added blk n) := HG.out.on hb1
  have b1 : Blk (w1.alloc (.cells (nums .u32 s0) 31)) w1.heap.size 31 (nums .u32 s0) := Blk.fresh _ _ _
  have hg2' := hg1.alloc (.cells (nums .u32 s0) 31)
  have HL2 := Lib.hid (run_load_blk (P := Tryd.prog) (o := 8) (c := nums .u8 blk) (ty := 32) hg2' rfl (by rw [nums_size, ha]) arrB64 rfl (by rw [nums_size, hb]; exact sizeB64))
  have HSP := Lib.hid (fun w => sha_spread w blk hb ib)
  rw [es0]
  clear es0
  have hb2 : Below w.heap.size w (w1.alloc (.cells (nums .u32 s0) 31)) := hb1.alloc hb1.size _
  have B1 := Lib.hid b1
  have HG2 := Lib.hid hg2'
  clear b1 hg2' hg1
  go_wp2_with (first | ((with_reducible refine wpList_store_run rfl rfl HS1.out ?_ ?_ ?_); (· rfl); (· rfl)) | ((with_reducible refine wpList_load_run rfl rfl HL2.out ?_ ?_); (· rfl)))
  refine (HSP.out _).mono ?_
  rintro e w2 ⟨rfl, hb3⟩
  have hL := length_sched blk 64
  have iW := inL_sched blk 64
  obtain ⟨W, eW⟩ : ∃ W, sched blk 64 = W := ⟨_, rfl⟩
  have EW := Lib.hid eW
  rw [eW] at hL iW ⊢
  clear eW
  have hzW : (Tryd.prog.info? 51).map (·.size) = some (nums .u32 W).size := by rw [nums_size, hL]; exact sizeW64
  have HZW := Lib.hid hzW
  have HL := Lib.hid hL
  clear hzW hL HST HSP
  have HS2 := Lib.hid (fun c (hc : c.size = 64) => run_storeAt_new (P := Tryd.prog) w2 51 c (nums .u32 W) HZW.out (by rw [hc, nums_size, HL.out]) (nums_one _ _))
  go_wp2_with ((with_reducible refine wpList_store_run rfl rfl (HS2.out _ ?_) ?_ ?_ ?_); (· rfl); (· rfl); (· rfl))
  have b2 : Blk (w2.alloc (.cells (nums .u32 W) 51)) w2.heap.size 51 (nums .u32 W) := Blk.fresh _ _ _
  have b3 := (B1.out.on hb3).alloc (.cells (nums .u32 W) 51)
  have b4 := (HG2.out.on hb3).alloc (.cells (nums .u32 W) 51)
  have hb4 := (hb2.trans (hb3.mono hb2.size)).alloc (hb2.trans (hb3.mono hb2.size)).size (.cells (nums .u32 W) 51)
  have n1 : w1.heap.size < w2.heap.size := (B1.out.on hb3).lt
  have n0 : g < w1.heap.size := (HG.out.on hb1).lt
  have n2 : w.heap.size ≤ w1.heap.size := hb1.size
  clear hb3 HG2 B1 HS1 HL2 hb2 HS2
  generalize w2.alloc (.cells (nums .u32 W) 51) = w3 at *
  generalize w2.heap.size = nW at *
  generalize w1.heap.size = nS at *
  clear hb1 w1 w2
  go_loopw [13] (fun i wr => ∃ k : Nat, k ≤ 64 ∧ i = .int .i64 k ∧ Blk wr nS 31 (nums .u32 (rounds W s0 k)) ∧ Blk wr nW 51 (nums .u32 W) ∧ Blk wr g 35 (digC added blk n) ∧ Below w.heap.size w wr) (fun i _ => 64 - (intOf i).toNat)
  case atStart => exact ⟨0, by decide, rfl, by rw [rounds_zero]; exact b3, b2, b4, hb4⟩
  case round =>
    obtain ⟨k, hk, rfl, bS, bW, bG, hbl⟩ := hrel
    by_cases hlt : k < 64
    · have hlen : (rounds W s0 k).length = 8 := by rw [length_rounds]; exact h8
      have hinl := inL_rounds W s0 i8 k
      have E := Lib.hid (rounds_succ W s0 k)
      have cR : wr.cell? ⟨0, k, none⟩ = some (.int .u32 (rootsL.getD k 0)) := (T.below hbl).roots k hlt
      have cW : wr.cell? ⟨nW, k, none⟩ = _ := (bW.cell k).trans (nums_get .u32 W k (by rw [HL.out]; exact hlt))
      have rW := iW.get k
      generalize rootsL.getD k 0 = x at *
      generalize W.getD k 0 = y at *
      obtain ⟨v, ev⟩ : ∃ v, rounds W s0 k = v := ⟨_, rfl⟩
      rw [ev] at bS hlen hinl E
      clear ev
      obtain ⟨a, b, c, d, e, f, h, i, rfl⟩ := length8 hlen
      have v0 : wr.cell? ⟨nS, 0, none⟩ = some (.int .u32 a) := bS.cell 0
      have v1 : wr.cell? ⟨nS, 1, none⟩ = some (.int .u32 b) := bS.cell 1
      have v2 : wr.cell? ⟨nS, 2, none⟩ = some (.int .u32 c) := bS.cell 2
      have v3 : wr.cell? ⟨nS, 3, none⟩ = some (.int .u32 d) := bS.cell 3
      have v4 : wr.cell? ⟨nS, 4, none⟩ = some (.int .u32 e) := bS.cell 4
      have v5 : wr.cell? ⟨nS, 5, none⟩ = some (.int .u32 f) := bS.cell 5
      have v6 : wr.cell? ⟨nS, 6, none⟩ = some (.int .u32 h) := bS.cell 6
      have v7 : wr.cell? ⟨nS, 7, none⟩ = some (.int .u32 i) := bS.cell 7
      have HC := Lib.hid (fun w => sha_step8 a b c d e f h i ((x + y) % 4294967296) (hinl a (by simp)) (hinl e (by simp)) w)
      have l8 : (stepL ((x + y) % 4294967296) [a, b, c, d, e, f, h, i]).length = 8 := length_stepL _ _
      obtain ⟨v', ev'⟩ : ∃ v', stepL ((x + y) % 4294967296) [a, b, c, d, e, f, h, i] = v' := ⟨_, rfl⟩
      rw [ev'] at HC E l8
      clear ev' hlen hinl
      have L8 := Lib.hid l8
      clear l8
      go_wp2_with fail
      go_still_tail 8, (by kernel_rfl)
      go_wp2_with fail
      refine (HC.out _).mono ?_
      rintro r w4 ⟨rfl, hb5⟩
      have bS' := (bS.drew).on hb5
      have HS := Lib.hid (run_store_all (P := Tryd.prog) (c' := nums .u32 v') bS' (by rw [nums_size, L8.out]; exact size8) (by rw [nums_size, nums_size, L8.out]; rfl) (nums_one _ _))
      have HX : Hid (Blk (w4.setRow nS (nums .u32 v')) nS 31 (nums .u32 (rounds W s0 (k + 1))) ∧ Blk (w4.setRow nS (nums .u32 v')) nW 51 (nums .u32 W) ∧ Blk (w4.setRow nS (nums .u32 v')) g 35 (digC added blk n) ∧ Below w.heap.size w (w4.setRow nS (nums .u32 v'))) :=
        ⟨by rw [E.out]; exact bS'.setRow _, (bW.drew.on hb5).farRow (by omega) _, (bG.drew.on hb5).farRow (by omega) _, below_row ((below_drawn hbl).trans (hb5.mono hbl.size)) n2 _⟩
      clear bS bW bG bS' hbl hb5 v0 v1 v2 v3 v4 v5 v6 v7 cR cW
      go_wp2_with ((with_reducible refine wpList_store_run rfl rfl HS.out ?_ ?_ ?_); (· rfl); (· rfl))
      go_roundw
      case rel => exact ⟨k + 1, by omega, by go_num, HX.out.1, HX.out.2.1, HX.out.2.2.1, HX.out.2.2.2⟩
      case measure => simp [intOf]; omega
    · have hk64 : k = 64 := by omega
      rw [hk64] at bS
      clear hk64
      have hS8 : (rounds W s0 64).length = 8 := by rw [length_rounds]; exact h8
      obtain ⟨S, eS⟩ : ∃ S, rounds W s0 64 = S := ⟨_, rfl⟩
      have ES := Lib.hid eS
      rw [eS] at bS hS8
      clear eS
      have hU : (addL added S).length = added.length := length_addL _ _ (by rw [ha, hS8])
      go_wp2_with fail
      go_loopw [26] (fun i wr => ∃ k : Nat, k ≤ 8 ∧ i = .int .i64 k ∧ Blk wr nS 31 (nums .u32 S) ∧ Blk wr g 35 (digC (upto (addL added S) added k) blk n) ∧ Only g w wr) (fun i _ => 8 - (intOf i).toNat)
      case atStart => exact ⟨0, by decide, rfl, bS, by rw [upto_zero]; exact bG, Only.ofBelow hbl⟩
      case round =>
        obtain ⟨k, hk, rfl, bS, bG, ho⟩ := hrel
        by_cases hlt : k < 8
        · have hl : (upto (addL added S) added k).length = 8 := by rw [length_upto _ _ _ hU]; exact ha
          have cS : wr.cell? ⟨nS, k, none⟩ = _ := (bS.cell k).trans (nums_get .u32 S k (by omega))
          have cG : wr.cell? ⟨g, k, none⟩ = some (.int .u32 (added.getD k 0)) := by
            rw [bG.cell, digC_added _ _ _ _ (by omega), getD_upto_ge _ _ _ _ hU (Nat.le_refl _) (by omega)]
          have fG := bG.free k
          have hnew := bG.put k (.int .u32 ((added.getD k 0 + S.getD k 0) % 4294967296))
          rw [digC_put _ _ _ _ _ (by omega), ← getD_addL _ _ _ (by omega) (by omega), upto_set _ _ _ hU (by omega), getD_addL _ _ _ (by omega) (by omega)] at hnew
          have HX := Lib.hid (And.intro (Blk.far bS (p := ⟨g, k, none⟩) (by show nS ≠ g; omega) (.int .u32 ((added.getD k 0 + S.getD k 0) % 4294967296))) (And.intro hnew (ho.put k (.int .u32 ((added.getD k 0 + S.getD k 0) % 4294967296)))))
          clear bS bG hnew ho hl
          generalize added.getD k 0 = x at *
          generalize S.getD k 0 = y at *
          go_wp2_with fail
          go_still_tail 13, (by kernel_rfl)
          go_wp2
          go_roundw
          case rel => exact ⟨k + 1, by omega, by go_num, HX.out.1, HX.out.2.1, HX.out.2.2.drew⟩
          case measure => simp [intOf]; omega
        · have hk8 : k = added.length := by omega
          rw [hk8, upto_all _ _ hU] at bG
          clear hk8
          have HU := Lib.hid hU
          clear hU
          have HS : Hid ((Instr.storeAt 32 (.pointer (some ⟨g, 8, none⟩)) (.agg (nums .u8 (pad [] 64)))).run Tryd.prog wr = .ok () (wr.setRow g (digC (addL added S) (pad [] 64) n))) := Lib.hid (run_store_blk (P := Tryd.prog) (o := 8) (c := nums .u8 blk) (c' := nums .u8 (pad [] 64)) (ty := 32) bG rfl (by rw [nums_size, HU.out, ha]) (by rw [nums_size, length_pad]; exact sizeB64) (by rw [nums_size, nums_size, length_pad, hb]) (nums_one _ _))
          have HX := Lib.hid (And.intro (bG.setRow (digC (addL added S) (pad [] 64) n)) (ho.setRow (digC (addL added S) (pad [] 64) n)))
          clear bG ho
          go_wp2_with ((with_reducible refine wpList_store_run rfl rfl HS.out ?_ ?_ ?_); (· rfl); (· rfl))
          go_end0
          rw [EW.out, ES0.out, ES.out]
          exact ⟨rfl, HX.out.1, HX.out.2⟩
end Go.Proofs.YtnankgophbjioaaDoor
