
/- Package blake: a block is mixed. -/
import Derived.Test.YtgcboodlneknpaaDoorBlakeC
import Derived.Deep.WholeRow
namespace Go.Proofs.YtgcboodlneknpaaDoor
open Go.RowKit

/-- The cells of a digest. -/
def bdigC (ch blk : List Int) (held len : Int) : Array Value := nums .u64 ch ++ nums .u8 blk ++ #[.int .i64 held, .int .u64 len]
theorem bdigC_size (ch blk : List Int) (h n : Int) : (bdigC ch blk h n).size = ch.length + blk.length + 2 := by simp [bdigC, nums_size]; omega
theorem bdigC_ch (ch blk : List Int) (h n : Int) (i : Nat) (hi : i < ch.length) : (bdigC ch blk h n)[i]? = some (.int .u64 (ch.getD i 0)) := by
  unfold bdigC
  rw [Array.getElem?_append_left (by simp [nums_size]; omega), Array.getElem?_append_left (by simp [nums_size]; omega), nums_get _ _ _ hi]
theorem bdigC_held (ch blk : List Int) (h n : Int) (ha : ch.length = 8) (hb : blk.length = 128) : (bdigC ch blk h n)[136]? = some (.int .i64 h) := by
  unfold bdigC
  rw [Array.getElem?_append_right (by simp [nums_size]; omega)]
  simp [nums_size, ha, hb]
theorem bdigC_len (ch blk : List Int) (h n : Int) (ha : ch.length = 8) (hb : blk.length = 128) : (bdigC ch blk h n)[137]? = some (.int .u64 n) := by
  unfold bdigC
  rw [Array.getElem?_append_right (by simp [nums_size]; omega)]
  simp [nums_size, ha, hb]
theorem bdigC_put (ch blk : List Int) (h n : Int) (i : Nat) (x : Int) (hi : i < ch.length) : (bdigC ch blk h n).setIfInBounds i (.int .u64 x) = bdigC (ch.set i x) blk h n := by
  unfold bdigC
  rw [Array.append_assoc, Array.append_assoc, Array.setIfInBounds_append_left (by simp [nums_size]; omega), nums_put]
theorem bdigC_puth (ch blk : List Int) (h n m : Int) (ha : ch.length = 8) (hb : blk.length = 128) : (bdigC ch blk h n).setIfInBounds 136 (.int .i64 m) = bdigC ch blk m n := by
  unfold bdigC
  rw [Array.setIfInBounds_append_right (by simp [nums_size]; omega)]
  simp [nums_size, ha, hb]
theorem bdigC_putn (ch blk : List Int) (h n m : Int) (ha : ch.length = 8) (hb : blk.length = 128) : (bdigC ch blk h n).setIfInBounds 137 (.int .u64 m) = bdigC ch blk h m := by
  unfold bdigC
  rw [Array.setIfInBounds_append_right (by simp [nums_size]; omega)]
  simp [nums_size, ha, hb]
theorem getD_mixed (ch blk : List Int) (len : Int) (last : Bool) (i : Nat) (h : i < 8) : (mixed ch blk len last).getD i 0 = xor6 (ch.getD i 0) (xor6 ((roundsB (numsL blk) (begL ch len last) 12).getD i 0) ((roundsB (numsL blk) (begL ch len last) 12).getD (i + 8) 0)) := getD_map_range _ _ _ h

theorem zero_b128 : ∀ w, (zeroValue 32).run Tryd.prog w = .ok (.agg (nums .u8 (pad [] 128))) w :=
  (zero_of_info (n := 128) (by kernel_rfl)).1
set_option maxRecDepth 100000 in
set_option maxHeartbeats 1000000 in
theorem blake_mix (w : World) (g : Nat) (ch blk : List Int) (held len : Int) (last : Bool) (ha : ch.length = 8) (ia : In6 ch) (hb : blk.length = 128) (ib : ByteL blk) (hlen : 0 ≤ len ∧ len < 18446744073709551616) (hg : Blk w g 34 (bdigC ch blk held len)) (T : BTabs w) (hg2 : bTop ≤ g) :
    Calls Tryd.prog 17 #[.pointer (some ⟨g, 0, none⟩), .bool last] w fun e w' => e = .returned (.tuple #[]) ∧ Blk w' g 34 (bdigC (mixed ch blk len last) (pad [] 128) 0 len) ∧ Only g w w' := by
  have HST := Lib.hid (blake_begin w g ch len last (fun i hi => (hg.cell i).trans (bdigC_ch _ _ _ _ i (by omega))) ((hg.cell 137).trans (bdigC_len _ _ _ _ ha hb)) T)
  have i8 := in6_begL ia len hlen last
  have h8 := length_begL ch len last
  have EM := Lib.hid (getD_mixed ch blk len last)
  have hML := length_mixed ch blk len last
  have HG := Lib.hid hg
  have htop := T.top
  obtain ⟨M, eM⟩ : ∃ M, mixed ch blk len last = M := ⟨_, rfl⟩
  obtain ⟨s0, es0⟩ : ∃ s0, begL ch len last = s0 := ⟨_, rfl⟩
  rw [eM] at EM hML ⊢
  rw [es0] at HST i8 h8 EM
  clear eM es0 hg
  go_enter Tryd.func17, Tryd.ntmps17
  go_wp2_with fail
  refine HST.out.mono ?_
  rintro e w1 ⟨rfl, hb1⟩
  have hz8 : (Tryd.prog.info? 49).map (·.size) = some (nums .u64 s0).size := by rw [nums_size, h8]; exact sizeV
  have HS1 := Lib.hid (fun c (hc : c.size = 16) => run_storeAt_new (P := Tryd.prog) w1 49 c (nums .u64 s0) hz8 (by rw [hc, nums_size, h8]) (nums_one _ _))
  clear hz8
  have hg1 : Blk w1 g 34 (bdigC ch blk held len) := HG.out.on hb1
  have b1 : Blk (w1.alloc (.cells (nums .u64 s0) 49)) w1.heap.size 49 (nums .u64 s0) := Blk.fresh _ _ _
  have hg2' := hg1.alloc (.cells (nums .u64 s0) 49)
  have HL2 := Lib.hid (run_load_blk (P := Tryd.prog) (o := 8) (c := nums .u8 blk) (ty := 32) hg2' rfl (by rw [nums_size, ha]) arrB128 rfl (by rw [nums_size, hb]; exact sizeB128))
  have HSP := Lib.hid (fun w => blake_numbers w blk hb ib)
  have hb2 : Below w.heap.size w (w1.alloc (.cells (nums .u64 s0) 49)) := hb1.alloc hb1.size _
  have B1 := Lib.hid b1
  have HG2 := Lib.hid hg2'
  clear b1 hg2' hg1
  go_wp2_with (first | ((with_reducible refine is_store 49 rfl ?_); (with_reducible refine wpList_store_run rfl rfl (HS1.out _ ?_) ?_ ?_ ?_); (· rfl); (· rfl); (· rfl)) | ((with_reducible refine is_load 32 rfl ?_); (with_reducible refine wpList_load_run rfl rfl HL2.out ?_ ?_); (· rfl)))
  refine (HSP.out _).mono ?_
  rintro e w2 ⟨rfl, hb3⟩
  have hL := length_numsL blk
  have iW := in6_numsL blk
  obtain ⟨W, eW⟩ : ∃ W, numsL blk = W := ⟨_, rfl⟩
  rw [eW] at hL iW EM ⊢
  clear eW
  have hzW : (Tryd.prog.info? 49).map (·.size) = some (nums .u64 W).size := by rw [nums_size, hL]; exact sizeV
  have HZW := Lib.hid hzW
  have HL := Lib.hid hL
  clear hzW hL HST HSP
  have HS2 := Lib.hid (fun c (hc : c.size = 16) => run_storeAt_new (P := Tryd.prog) w2 49 c (nums .u64 W) HZW.out (by rw [hc, nums_size, HL.out]) (nums_one _ _))
  go_wp2_with ((with_reducible refine is_store 49 rfl ?_); (with_reducible refine wpList_store_run rfl rfl (HS2.out _ ?_) ?_ ?_ ?_); (· rfl); (· rfl); (· rfl))
  have b2 : Blk (w2.alloc (.cells (nums .u64 W) 49)) w2.heap.size 49 (nums .u64 W) := Blk.fresh _ _ _
  have b3 := (B1.out.on hb3).alloc (.cells (nums .u64 W) 49)
  have b4 := (HG2.out.on hb3).alloc (.cells (nums .u64 W) 49)
  have hb4 := (hb2.trans (hb3.mono hb2.size)).alloc (hb2.trans (hb3.mono hb2.size)).size (.cells (nums .u64 W) 49)
  have n1 : w1.heap.size < w2.heap.size := (B1.out.on hb3).lt
  have n0 : g < w1.heap.size := (HG.out.on hb1).lt
  have n2 : w.heap.size ≤ w1.heap.size := hb1.size
  clear hb3 HG2 B1 HS1 HL2 hb2 HS2 HG
  generalize w2.alloc (.cells (nums .u64 W) 49) = w3 at *
  generalize w2.heap.size = nW at *
  generalize w1.heap.size = nS at *
  clear hb1 w1 w2
  go_loopw [16] (fun i wr => ∃ k : Nat, k ≤ 12 ∧ i = .int .i64 k ∧ Blk wr nS 49 (nums .u64 (roundsB W s0 k)) ∧ Blk wr nW 49 (nums .u64 W) ∧ Blk wr g 34 (bdigC ch blk held len) ∧ Below w.heap.size w wr) (fun i _ => 12 - (intOf i).toNat)
  case atStart => exact ⟨0, by decide, rfl, by rw [roundsB_zero]; exact b3, b2, b4, hb4⟩
  case round =>
    obtain ⟨k, hk, rfl, bS, bW, bG, hbl⟩ := hrel
    by_cases hlt : k < 12
    · have E := Lib.hid (roundsB_succ W s0 k)
      have HC := Lib.hid (blake_turn wr nS nW (roundsB W s0 k) W (k % 10) (by rw [length_roundsB]; exact h8) (in6_roundsB W i8 k) HL.out (by omega) (by omega) (by omega) bS bW (T.below hbl))
      have e10 : ((k % 10 : Nat) : Int) = (k : Int) % 10 := by omega
      rw [e10] at HC
      go_wp2_with fail
      refine HC.out.mono ?_
      rintro e w4 ⟨rfl, bS4, ho4⟩
      rw [← E.out] at bS4
      have HX := Lib.hid (And.intro (bW.only ho4 (by omega)) (And.intro (bG.only ho4 (by omega)) (hbl.trans (ho4.below n2 hbl.size))))
      have HS4 := Lib.hid bS4
      clear bS bW bG hbl HC E bS4 ho4
      go_wp2_with fail
      go_roundw
      case rel => exact ⟨k + 1, by omega, by go_num, HS4.out, HX.out.1, HX.out.2.1, HX.out.2.2⟩
      case measure => simp [intOf]; omega
    · have hk12 : k = 12 := by omega
      rw [hk12] at bS
      clear hk12
      have hS16 : (roundsB W s0 12).length = 16 := by rw [length_roundsB]; exact h8
      obtain ⟨S, eS⟩ : ∃ S, roundsB W s0 12 = S := ⟨_, rfl⟩
      rw [eS] at bS hS16 EM
      clear eS
      have hU : M.length = ch.length := by rw [hML, ha]
      go_wp2_with fail
      go_loopw [23] (fun i wr => ∃ k : Nat, k ≤ 8 ∧ i = .int .i64 k ∧ Blk wr nS 49 (nums .u64 S) ∧ Blk wr g 34 (bdigC (upto M ch k) blk held len) ∧ Only g w wr) (fun i _ => 8 - (intOf i).toNat)
      case atStart => exact ⟨0, by decide, rfl, bS, by rw [upto_zero]; exact bG, Only.ofBelow hbl⟩
      case round =>
        obtain ⟨k, hk, rfl, bS, bG, ho⟩ := hrel
        by_cases hlt : k < 8
        · have hl : (upto M ch k).length = 8 := by rw [length_upto _ _ _ hU]; exact ha
          have cS : wr.cell? ⟨nS, k, none⟩ = _ := (bS.cell k).trans (nums_get .u64 S k (by omega))
          have cS8 : wr.cell? ⟨nS, k + 8, none⟩ = _ := (bS.cell (k + 8)).trans (nums_get .u64 S (k + 8) (by omega))
          have cG : wr.cell? ⟨g, k, none⟩ = some (.int .u64 (ch.getD k 0)) := by
            rw [bG.cell, bdigC_ch _ _ _ _ _ (by omega), getD_upto_ge _ _ _ _ hU (Nat.le_refl _) (by omega)]
          have fG := bG.free k
          have hnew := bG.put k (.int .u64 (xor6 (ch.getD k 0) (xor6 (S.getD k 0) (S.getD (k + 8) 0))))
          rw [bdigC_put _ _ _ _ _ _ (by omega), ← EM.out k hlt, upto_set _ _ _ hU (by omega), EM.out k hlt] at hnew
          have HX := Lib.hid (And.intro (Blk.far bS (p := ⟨g, k, none⟩) (by show nS ≠ g; omega) (.int .u64 (xor6 (ch.getD k 0) (xor6 (S.getD k 0) (S.getD (k + 8) 0))))) (And.intro hnew (ho.put k (.int .u64 (xor6 (ch.getD k 0) (xor6 (S.getD k 0) (S.getD (k + 8) 0)))))))
          clear bS bG hnew ho hl
          obtain ⟨k8, ek⟩ : ∃ k8, k + 8 = k8 := ⟨_, rfl⟩
          have j8 : IntKind.i64.wrap ((k : Int) + 8) = (k8 : Int) := by rw [IntWalk.i64_in _ (by omega)]; omega
          have v8 : (k8 : Int) < 16 := by omega
          have v0 : (k : Int) < 16 := by omega
          rw [ek] at cS8 HX
          clear ek
          generalize ch.getD k 0 = x at *
          generalize S.getD k 0 = y at *
          generalize S.getD k8 0 = z at *
          go_wp2_with fail
          go_still_tail 18, (by kernel_rfl)
          go_wp2_with fail
          go_roundw
          case rel => exact ⟨k + 1, by omega, by go_num, HX.out.1, HX.out.2.1, HX.out.2.2.drew⟩
          case measure => simp [intOf]; omega
        · have hk8 : k = ch.length := by omega
          rw [hk8, upto_all _ _ hU] at bG
          clear hk8
          have HS : Hid ((Instr.storeAt 32 (.pointer (some ⟨g, 8, none⟩)) (.agg (nums .u8 (pad [] 128)))).run Tryd.prog wr = .ok () (wr.setRow g (bdigC M (pad [] 128) held len))) := Lib.hid (run_store_blk (P := Tryd.prog) (o := 8) (c := nums .u8 blk) (c' := nums .u8 (pad [] 128)) (ty := 32) bG rfl (by rw [nums_size, hML]) (by rw [nums_size, length_pad]; exact sizeB128) (by rw [nums_size, nums_size, length_pad, hb]) (nums_one _ _))
          have b5 := bG.setRow (bdigC M (pad [] 128) held len)
          have ho5 := ho.setRow (bdigC M (pad [] 128) held len)
          have c5 : (wr.setRow g (bdigC M (pad [] 128) held len)).cell? ⟨g, 136, none⟩ = some (.int .i64 held) := (b5.cell 136).trans (bdigC_held _ _ _ _ hML (length_pad _ _))
          have f5 := b5.free 136
          have b6 := b5.put 136 (.int .i64 0)
          rw [bdigC_puth _ _ _ _ _ hML (length_pad _ _)] at b6
          have HX := Lib.hid (And.intro b6 (ho5.put 136 (.int .i64 0)))
          generalize wr.setRow g (bdigC M (pad [] 128) held len) = w5 at *
          clear bG ho b5 b6 ho5 bS
          have HZ := zero_b128
          go_wp2_with ((with_reducible refine is_store 32 rfl ?_); (with_reducible refine wpList_store_run rfl rfl HS.out ?_ ?_ ?_); (· rfl); (· rfl))
          go_end0
          exact ⟨rfl, HX.out.1, HX.out.2⟩
end Go.Proofs.YtgcboodlneknpaaDoor
