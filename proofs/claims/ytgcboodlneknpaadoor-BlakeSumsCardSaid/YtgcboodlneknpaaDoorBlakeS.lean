
/- The document's answer: BLAKE2b-256 of the whole text. -/
import Derived.Test.YtgcboodlneknpaaDoorBlakeT
import Derived.Test.YtgcboodlneknpaaDoorMask
import Derived.StillTailTactics
import Derived.IntWalk
namespace Go.Proofs.YtgcboodlneknpaaDoor
open Go.RowKit

theorem info64 : (Tryd.prog.info? 30).map (fun i => (i.zero, i.size, i.bytes)) = some (some (.int .u64 0), 1, 8) := by kernel_rfl
theorem make16 (w : World) : (Instr.makeSlice 39 (.int .i64 16) (.int .i64 16)).run Tryd.prog w = .ok (.slice (some ⟨w.heap.size, 0, none⟩) 16 16) (w.alloc (.cells (nums .u64 (pad [] 16)) 30)) := by kernel_rfl

/-- Inside a round: i of its eight steps are done. -/
structure RSt (w : World) (B gv cv gm gp : Nat) (W : List Int) (r : Nat) (v : List Int) (i : Nat) : Prop where
  own : Own w B .u64 30 (.slice (some ⟨gv, 0, none⟩) 16 cv) (turnK W (r % 10) v i)
  m : Blk w gm 30 (nums .u64 W)
  p : Blk w gp 3 (nums .i64 (rowL r))
theorem RSt.go {w : World} {B gv cv gm gp : Nat} {W : List Int} {r : Nat} {v : List Int} {i : Nat} (h : RSt w B gv cv gm gp W r v i) (hv : v.length = 16) (hi6 : In6 v) (hW : W.length = 16) (hi : i < 8) (hm : gm ≠ gv) (hp : gp ≠ gv)
    (j0 j1 pa pb pc pd : Nat) (e0 : j0 = 2 * i) (e1 : j1 = 2 * i + 1) (ea : pl i 0 = pa) (eb : pl i 1 = pb) (ec : pl i 2 = pc) (ed : pl i 3 = pd) (ia ib ic id : Int) (fa : ia = (pa : Nat)) (fb : ib = (pb : Nat)) (fc : ic = (pc : Nat)) (fd : id = (pd : Nat)) :
    ∃ (a b : Nat) (x y : Int), (a : Int) < 16 ∧ (b : Int) < 16 ∧ w.cell? ⟨gp, j0, none⟩ = some (.int .i64 a) ∧ w.cell? ⟨gp, j1, none⟩ = some (.int .i64 b) ∧ w.cell? ⟨gm, a, none⟩ = some (.int .u64 x) ∧ w.cell? ⟨gm, b, none⟩ = some (.int .u64 y) ∧
      ∀ d, Calls Tryd.prog 16 #[.slice (some ⟨gv, 0, none⟩) 16 cv, .int .i64 ia, .int .i64 ib, .int .i64 ic, .int .i64 id, .int .u64 x, .int .u64 y] (w.drewN d) fun e w' => e = .returned (.tuple #[]) ∧ RSt w' B gv cv gm gp W r v (i + 1) ∧ Only gv w w' := by
  subst e0 e1 ea eb ec ed fa fb fc fd
  have h1 := tb_lt (r % 10) (by omega) (2 * i) (by omega)
  have h2 := tb_lt (r % 10) (by omega) (2 * i + 1) (by omega)
  refine ⟨tb (r % 10) (2 * i), tb (r % 10) (2 * i + 1), W.getD (tb (r % 10) (2 * i)) 0, W.getD (tb (r % 10) (2 * i + 1)) 0, by omega, by omega, ?_, ?_, (h.m.cell _).trans (nums_get .u64 W _ (by omega)), (h.m.cell _).trans (nums_get .u64 W _ (by omega)), fun d => ?_⟩
  · rw [h.p.cell, nums_get .i64 _ _ (by rw [length_rowL]; omega), getD_rowL _ _ (by omega)]
  · rw [h.p.cell, nums_get .i64 _ _ (by rw [length_rowL]; omega), getD_rowL _ _ (by omega)]
  · obtain ⟨⟨l0, l1, l2, l3⟩, n1, n2, n3, n4, n5, n6⟩ := pl_ok i hi
    refine (ref_mix (w.drewN d) B gv cv (pl i 0) (pl i 1) (pl i 2) (pl i 3) (turnK W (r % 10) v i) _ _ (by rw [length_turnK]; exact hv) (in6_turnK _ _ hi6 i) l0 l1 l2 l3 n1 n2 n3 n4 n5 n6 (h.own.drewN d)).mono ?_
    rintro e w' ⟨rfl, ho, hon⟩
    have hon' := ((Only.refl gv w).drewN d).trans hon
    exact ⟨rfl, ⟨by rw [turnK_succ]; exact ho, h.m.only hon' hm, h.p.only hon' hp⟩, hon'⟩

/- The slots that may be written: by each loop, between each parting and its meeting. -/
abbrev kBlocks : List Bool := [false, false, false, false, true, false, false, false, false, false, false, false, false, false, false, false, false, false, false, false, false, false, false, false, false, false, false, false, true]
abbrev kLoop : List Bool := [false, false, false, false, false, true, true, true, true, true, true, true, true, false, false, false, false, false, false, false, false, false, false, false, false, false, false, false, false, true, true, true, true, true, true, true, true, true, true, true, true, true, true, true, true, true, true, true, true, true, true, true, true, true, true, true, true, true, true, true, true, true, true, true, true, true, true, true, true, true, true, true, true, true, true, true, true, true, true, true, true, true, true, true, true, true, true, true, true, true, true, true, true, true, true, true, true, true, true, true, true, true, true, true, true, true, true, true, true, true, true, true, true, true, true, true, true, true, true, true, true, true, true, true, true, true, true, true, true, true, true, true, true, true, true, true, true, true, true, true, true, true, true, true, true, true, true, true, true, true, true, true, true, true, true, true, true, true, true, true, true, true, true, true, true, true, true, true, true, true, true, true, true, true, true, true, true, true, true, true, true, true, true, true, true, true, true, true, true, true, true, true, true, true, true, true, true, true, true, true, true, true, true, true, true, true, true, true, true, true, true, true, true, true, true, true, true, true, true, true, true]
abbrev kTaken : List Bool := [false, false, false, false, false, false, true, false, false, false, false, false, false, false, false, false, false, false, false, false, false, false, false, false, false, false, false, false, false, false, false, false, false, false, false, false, false, false, false, false, true, true, true]
abbrev kM : List Bool := [false, false, false, false, false, false, false, false, true, false, false, false, false, false, false, false, false, false, false, false, false, false, false, false, false, false, false, false, false, false, false, false, false, false, false, false, false, false, false, false, false, false, false, false, true, true, true, true, true, true, true, true, true, true, true, true, true, true]
abbrev kLast : List Bool := [false, false, false, false, false, false, false, false, false, false, false, false, false, false, false, false, false, false, false, false, false, false, false, false, false, false, false, false, false, false, false, false, false, false, false, false, false, false, false, false, false, false, false, false, false, false, false, false, false, false, false, false, false, false, false, false, false, false, false, false, false, false, false, false, false, false, false, false, false, false, false, false, false, false, true, true, true, true, true, true, true]
abbrev kRound : List Bool := [false, false, false, false, false, false, false, false, false, false, true, true, false, false, false, false, false, false, false, false, false, false, false, false, false, false, false, false, false, false, false, false, false, false, false, false, false, false, false, false, false, false, false, false, false, false, false, false, false, false, false, false, false, false, false, false, false, false, false, false, false, false, false, false, false, false, false, false, false, false, false, false, false, false, false, false, false, false, false, false, false, true, true, true, true, true, true, true, true, true, true, true, true, true, true, true, true, true, true, true, true, true, true, true, true, true, true, true, true, true, true, true, true, true, true, true, true, true, true, true, true, true, true, true, true, true, true, true, true, true, true, true, true, true, true, true, true, true, true, true, true, true, true, true, true, true, true, true, true, true, true, true, true, true, true, true, true, true, true, true, true, true, true, true, true, true, true, true, true, true, true, true, true, true, true, true, true, true, true, true, true, true, true, true, true, true, true, true, true, true, true, true, true, true, true, true, true, true, true]
abbrev kSum : List Bool := [false, false, false, false, false, false, false, false, false, false, false, false, true, false, false, false, false, false, false, false, false, false, false, false, false, false, false, false, false, false, false, false, false, false, false, false, false, false, false, false, false, false, false, false, false, false, false, false, false, false, false, false, false, false, false, false, false, false, false, false, false, false, false, false, false, false, false, false, false, false, false, false, false, false, false, false, false, false, false, false, false, false, false, false, false, false, false, false, false, false, false, false, false, false, false, false, false, false, false, false, false, false, false, false, false, false, false, false, false, false, false, false, false, false, false, false, false, false, false, false, false, false, false, false, false, false, false, false, false, false, false, false, false, false, false, false, false, false, false, false, false, false, false, false, false, false, false, false, false, false, false, false, false, false, false, false, false, false, false, false, false, false, false, false, false, false, false, false, false, false, false, false, false, false, false, false, false, false, false, false, false, false, false, false, false, false, false, false, false, false, false, false, false, false, false, false, false, false, false, true, true, true, true, true, true, true, true, true, true, true, true, true, true, true, true, true, true, true, true, true, true]
abbrev kOut : List Bool := [false, false, false, false, false, false, false, false, false, false, false, false, false, true, true, true, false, false, false, false, false, false, false, false, false, false, false, false, false, false, false, false, false, false, false, false, false, false, false, false, false, false, false, false, false, false, false, false, false, false, false, false, false, false, false, false, false, false, false, false, false, false, false, false, false, false, false, false, false, false, false, false, false, false, false, false, false, false, false, false, false, false, false, false, false, false, false, false, false, false, false, false, false, false, false, false, false, false, false, false, false, false, false, false, false, false, false, false, false, false, false, false, false, false, false, false, false, false, false, false, false, false, false, false, false, false, false, false, false, false, false, false, false, false, false, false, false, false, false, false, false, false, false, false, false, false, false, false, false, false, false, false, false, false, false, false, false, false, false, false, false, false, false, false, false, false, false, false, false, false, false, false, false, false, false, false, false, false, false, false, false, false, false, false, false, false, false, false, false, false, false, false, false, false, false, false, false, false, false, false, false, false, false, false, false, false, false, false, false, false, false, false, false, false, false, false, false, false, false, false, false, true, true, true, true, true, true, true, true, true, true, true, true, true, true, true, true, true, true, true]
abbrev kIn : List Bool := [false, false, false, false, false, false, false, false, false, false, false, false, false, true, false, true, false, false, false, false, false, false, false, false, false, false, false, false, false, false, false, false, false, false, false, false, false, false, false, false, false, false, false, false, false, false, false, false, false, false, false, false, false, false, false, false, false, false, false, false, false, false, false, false, false, false, false, false, false, false, false, false, false, false, false, false, false, false, false, false, false, false, false, false, false, false, false, false, false, false, false, false, false, false, false, false, false, false, false, false, false, false, false, false, false, false, false, false, false, false, false, false, false, false, false, false, false, false, false, false, false, false, false, false, false, false, false, false, false, false, false, false, false, false, false, false, false, false, false, false, false, false, false, false, false, false, false, false, false, false, false, false, false, false, false, false, false, false, false, false, false, false, false, false, false, false, false, false, false, false, false, false, false, false, false, false, false, false, false, false, false, false, false, false, false, false, false, false, false, false, false, false, false, false, false, false, false, false, false, false, false, false, false, false, false, false, false, false, false, false, false, false, false, false, false, false, false, false, false, false, false, false, false, false, false, true, true, true, true, true, true, true, true, true, true, true, true, true, true, true]

set_option maxRecDepth 100000 in
set_option maxHeartbeats 8000000 in
theorem ref_BSum (w : World) (zs : List Int) (A : Option Addr) (cap : Nat) (hl : zs.length ≤ 800) (bz : ByteL zs) (hr : Rd w w.heap.size .u8 A zs) :
    Calls Tryd.prog 8 #[.slice A zs.length cap] w fun e w' => ∃ A cap, e = .returned (.slice A 32 cap) ∧ Rd w' w'.heap.size .u8 A (blakeL zs) ∧ Below w.heap.size w w' := by
  obtain ⟨n, en⟩ : ∃ n, zs.length = n := ⟨_, rfl⟩
  have hnb : Hid (bnb zs.length = bnb n) := by unfold Hid; rw [en]
  have EN := Lib.hid en
  rw [en] at hl ⊢
  clear en
  go_enter Tryd.func8, Tryd.ntmps8
  go_wp2_with fail
  refine (ref_first w).mono ?_
  rintro e w1 ⟨rfl, b1, hb1⟩
  have c0 : w1.cell? ⟨w.heap.size, 0, none⟩ = some (.int .u64 (ivL.getD 0 0)) := (b1.cell 0).trans (nums_get .u64 ivL 0 (by decide))
  have f0 := b1.free 0
  have b2 := b1.put 0 (.int .u64 (xor6 (ivL.getD 0 0) 16842784))
  rw [nums_put, ← stL_zero, ← hS_zero zs] at b2
  have hb2 := hb1.setCell (p := ⟨w.heap.size, 0, none⟩) (Nat.le_refl _) (.int .u64 (xor6 (ivL.getD 0 0) 16842784))
  have B2 := Lib.hid b2
  have HB2 := Lib.hid hb2
  clear b1 b2 hb2 hb1
  generalize ivL.getD 0 0 = z0 at *
  go_upto_if 28 with fail
  refine gen_world ?_
  intro w2 hw2
  have bH : Blk w2 w.heap.size 30 (nums .u64 (hS zs 0)) := by rw [hw2]; exact B2.out
  have hbH : Below w.heap.size w w2 := by rw [hw2]; exact HB2.out
  clear hw2 c0 f0 B2 HB2 w1
  refine wp_cut_mask kBlocks (fun t w' => t 4 = .int .i64 ((bnb n : Nat) + 1) ∧ w' = w2) (fun K' HK' => ?_) ?_
  · by_cases hn0 : n = 0
    · subst hn0
      go_wp2_with fail
      exact HK'.out _ _ rfl ⟨rfl, rfl⟩
    · have hq : ¬ (((n : Int) + 127) / 128 = 0) := by omega
      have hv : (n : Int) + 127 = 128 * ((bnb n : Nat) + 1 : Int) + ((n : Int) + 127) % 128 := by unfold bnb; omega
      have hd : ((n : Int) + 127) / 128 = (bnb n : Nat) + 1 := by unfold bnb; omega
      go_wp2_with fail
      exact HK'.out _ _ rfl ⟨show Value.int .i64 (((n : Int) + 127) / 128) = _ by rw [hd], rfl⟩
  · intro t w' hR
    dsimp only [mask, kBlocks, Nat.reduceAdd]
    obtain ⟨e4, rfl⟩ := hR
    rw [e4]
    clear e4
    generalize t 28 = u28 at *
    have hnb2 := bnb_le n
    have HNB := Lib.hid hnb.out
    obtain ⟨nb, eb⟩ : ∃ nb, bnb n = nb := ⟨_, rfl⟩
    rw [eb] at hnb2 HNB ⊢
    have EB := Lib.hid eb
    clear hnb eb
    have hnb100 : nb ≤ 100 := by omega
    generalize hgh : w.heap.size = gh at *
    have hgh' : gh ≤ w.heap.size := by omega
    have HGH := Lib.hid hgh
    clear hgh
    go_wp2_with fail
    refine wp_loop_mask kLoop (fun m t wk => ∃ k : Nat, m + k = nb + 1 ∧ t 5 = .int .i64 k ∧ Blk wk gh 30 (nums .u64 (hS zs k)) ∧ Below gh w wk) (nb + 1) ⟨0, rfl, rfl, bH, hbH⟩ ?_
    clear bH hbH
    intro n4 t4 wr hrel K4 HK4
    dsimp only [mask, kLoop, Nat.reduceAdd]
    obtain ⟨k, hm4, e5, bH, hbk⟩ := hrel
    rw [e5]
    clear e5
    have hk : k ≤ nb + 1 := by omega
    by_cases hlk : k ≤ nb
    · have hlk' : (k : Int) < (nb : Int) + 1 := by omega
      have hk100 : k ≤ 100 := by omega
      go_upto_if 40 with fail
      refine wp_cut_mask kTaken (fun t w' => t 6 = .int .i64 ((min (128 * (k + 1)) n : Nat) : Int) ∧ w' = wr) (fun K' HK' => ?_) ?_
      · by_cases ht : 128 * (k + 1) ≤ n
        · have ht' : ¬ ((n : Int) < 128 * ((k : Int) + 1)) := by omega
          have he : ((min (128 * (k + 1)) n : Nat) : Int) = 128 * ((k : Int) + 1) := by omega
          go_wp2_with fail
          exact HK'.out _ _ rfl ⟨by rw [he]; rfl, rfl⟩
        · have ht' : (n : Int) < 128 * ((k : Int) + 1) := by omega
          have he : ((min (128 * (k + 1)) n : Nat) : Int) = n := by omega
          go_wp2_with fail
          exact HK'.out _ _ rfl ⟨by rw [he]; rfl, rfl⟩
      · intro t w' hR
        dsimp only [mask, kTaken, Nat.reduceAdd]
        obtain ⟨e6, rfl⟩ := hR
        rw [e6]
        clear e6
        obtain ⟨T, eT⟩ : ∃ T, min (128 * (k + 1)) n = T := ⟨_, rfl⟩
        rw [eT]
        have HM := make16
        go_wp2_with fail
        have gK : gh < w'.heap.size := bH.lt
        have bM : Blk (w'.alloc (.cells (nums .u64 (pad [] 16)) 30)) w'.heap.size 30 (nums .u64 (upto (numsL (blkP zs k)) (pad [] 16) 0)) := by rw [upto_zero]; exact Blk.fresh _ _ _
        clear HM
        refine wp_loop_mask kM (fun m s w5 => ∃ i : Nat, m + i = 16 ∧ s 8 = .int .i64 i ∧ Blk w5 w'.heap.size 30 (nums .u64 (upto (numsL (blkP zs k)) (pad [] 16) i)) ∧ Below w'.heap.size w' w5) 16 ⟨0, rfl, rfl, bM, below_alloc _ _⟩ ?_
        clear bM
        intro n5 t5 w5 hrel K5 HK5
        dsimp only [mask, kM, Nat.reduceAdd]
        obtain ⟨i, hm5, e8, bM, hb5⟩ := hrel
        rw [e8]
        clear e8
        have hi : i ≤ 16 := by omega
        have hU : (numsL (blkP zs k)).length = (pad [] 16).length := by rw [length_numsL, length_pad]
        by_cases hli : i < 16
        · have hr5 : Rd w5 gh .u8 A zs := (hr.below hbk).below (hb5.mono (by omega))
          have HNUM := refLittleAt w5 gh A cap zs (128 * k + 8 * i) hr5 bz (by rw [EN.out]; omega) (by omega)
          rw [EN.out, show ((128 * k + 8 * i : Nat) : Int) = 128 * (k : Int) + 8 * (i : Int) by simp, ← word6_at zs k i hli] at HNUM
          have hll : i < (upto (numsL (blkP zs k)) (pad [] 16) i).length := by rw [length_upto _ _ _ hU, length_pad]; exact hli
          have c1 := (bM.cell i).trans (nums_get .u64 _ i hll)
          have f1 := bM.free i
          have xr := (in6_numsL (blkP zs k)).get i
          have hnew := bM.put i (.int .u64 ((numsL (blkP zs k)).getD i 0))
          rw [nums_put, upto_set _ _ _ hU (by rw [length_pad]; exact hli)] at hnew
          have hb6 := hb5.setCell (p := ⟨w'.heap.size, i, none⟩) (Nat.le_refl _) (.int .u64 ((numsL (blkP zs k)).getD i 0))
          have HN := Lib.hid hnew
          have HB := Lib.hid hb6
          have HX := Lib.hid HNUM
          clear hnew hb6 HNUM bM hb5 hr5 hll
          generalize (upto (numsL (blkP zs k)) (pad [] 16) i).getD i 0 = y at *
          generalize (numsL (blkP zs k)).getD i 0 = x at *
          go_wp2_with fail
          refine HX.out.mono ?_
          rintro e w6 ⟨rfl, rfl⟩
          go_wp2_with fail
          exact HK5.out _ _ (n5 - 1) (by omega) rfl ⟨i + 1, by omega, (show Value.int .i64 ((i : Int) + 1) = .int .i64 ((i + 1 : Nat) : Int) by go_num), HN.out, HB.out⟩
        · have hi16 : i = (pad [] 16).length := by rw [length_pad]; omega
          rw [hi16, upto_all _ _ hU] at bM
          clear hi16 hU
          have hW := in6_numsL (blkP zs k)
          have hW16 := length_numsL (blkP zs k)
          have hLT : T < 18446744073709551616 := by omega
          have HSUC := Lib.hid (hS_getD zs k (by rw [HNB.out]; exact hlk) T (by rw [EN.out]; exact eT.symm) (by rw [EN.out]; omega) (decide (k = nb)) (by rw [HNB.out]))
          have hHat := hS_at zs k (by rw [HNB.out]; exact hlk)
          have hH8 := length_hS zs k
          have i6 := in6_begL (in6_bch zs k (by omega)) (T : Nat) (by omega) (decide (k = nb))
          have hB16 := length_begL (bch zs k) (T : Nat) (decide (k = nb))
          have EBEG := Lib.hid (begL_eq (bch zs k) (T : Nat))
          have EB14 := Lib.hid (getD_beg14 (bch zs k) (T : Nat))
          have E12 : (stL (bch zs k) ++ ivL).getD 12 0 = ivL.getD 4 0 := by rw [getD_append_right _ _ _ (by rw [length_stL]; decide), length_stL]
          have HAT := Lib.hid hHat
          rw [hHat] at bH
          obtain ⟨W, eW⟩ : ∃ W, numsL (blkP zs k) = W := ⟨_, rfl⟩
          rw [eW] at bM hW hW16 HSUC
          clear eW hHat
          have hs5 : w'.heap.size ≤ w5.heap.size := hb5.size
          have bH5 := bH.below hb5 gK
          have hb05 : Below gh w w5 := hbk.trans (hb5.mono (by omega))
          have gM := bM.lt
          generalize hgm : w'.heap.size = gm at *
          clear hgm hb5 bH hbk
          -- v
          have bz0 : Blk (w5.alloc (.cells #[] 30)) w5.heap.size 30 (nums .u64 []) := Blk.fresh _ _ _
          have o0 : Own (w5.alloc (.cells #[] 30)) w5.heap.size .u64 30 (.slice (some ⟨w5.heap.size, 0, none⟩) 0 0) [] := Own.ofBlk bz0 (Nat.le_refl _) (by decide)
          have hst8 := length_stL (bch zs k)
          obtain ⟨v1, w6, hr1, o1, hb6, _⟩ := run_append_nums (P := Tryd.prog) (ty := 39) (xs := stL (bch zs k)) (A := some ⟨gh, 0, none⟩) (cap := 8) Tryd.underlying39 info64 (by decide) o0 (bH5.alloc (.cells #[] 30)).rd (fun h => by cases h) (by rw [hst8]; simp) (by simp)
          rw [hst8] at hr1
          rw [List.nil_append] at o1
          have HR1 := Lib.hid hr1
          have hb56 : Below w5.heap.size w5 w6 := (below_alloc w5 _).trans hb6
          have O1 := Lib.hid o1
          clear hr1 hb6 o0 bz0 o1
          go_wp2_with ((with_reducible refine is_append 39 rfl ?_); (with_reducible refine wpList_append_run rfl rfl HR1.out ?_ ?_ ?_); (· rfl); (· rfl))
          refine (ref_first w6).mono ?_
          rintro e w7 ⟨rfl, bF, hb7⟩
          have hs56 := hb56.size
          have o1' := O1.out.below hb7
          obtain ⟨v2, w8, hr2, o2, hb8, _⟩ := run_append_nums (P := Tryd.prog) (ty := 39) (xs := ivL) (A := some ⟨w6.heap.size, 0, none⟩) (cap := 8) Tryd.underlying39 info64 (by decide) o1' bF.rd (fun h => by cases h) (by rw [hst8]; decide) (by have := hb7.size; omega)
          rw [show ivL.length = 8 from rfl] at hr2
          have hl16 : (stL (bch zs k) ++ ivL).length = 16 := by rw [List.length_append, hst8]; rfl
          obtain ⟨gv, cv, rfl⟩ := o2.head (by omega)
          rw [hl16] at o2 hr2
          have HR2 := Lib.hid hr2
          have hb58 : Below w5.heap.size w5 w8 := (hb56.trans (hb7.mono hs56)).trans hb8
          obtain ⟨c12, f12⟩ := o2.at (j := 12) (by omega)
          have hgv := o2.ge
          have o9 := o2.set (j := 12) (by omega) (xor6 (ivL.getD 4 0) (T : Nat))
          rw [← E12, EBEG.out.1] at o9
          rw [E12] at c12 o9
          have O9 := Lib.hid o9
          have hb59 := Lib.hid (hb58.setCell (p := ⟨gv, 12, none⟩) hgv (.int .u64 (xor6 (ivL.getD 4 0) (T : Nat))))
          have hTw : IntKind.u64.wrap (T : Int) = T := by rw [IntKind.wrap_u64]; omega
          clear hr2 hb8 hb7 bF o1' O1 HR1 hb56 o2 o9 hb58
          generalize ivL.getD 4 0 = y4 at *
          go_upto_if 74 with (first | ((with_reducible refine is_append 39 rfl ?_); (with_reducible refine wpList_append_run rfl rfl HR2.out ?_ ?_ ?_); (· rfl); (· rfl)) | (fail))
          refine gen_world ?_
          intro w9 hw9
          have o9 : Own w9 w5.heap.size .u64 30 (.slice (some ⟨gv, 0, none⟩) 16 cv) (begL (bch zs k) (T : Nat) false) := by rw [hw9]; exact O9.out
          have hb9 : Below w5.heap.size w5 w9 := by rw [hw9]; exact hb59.out
          clear hw9 O9 hb59 HR2 c12 f12
          refine wp_cut_mask kLast (fun s w' => Own w' w5.heap.size .u64 30 (.slice (some ⟨gv, 0, none⟩) 16 cv) (begL (bch zs k) (T : Nat) (decide (k = nb))) ∧ Below w5.heap.size w5 w') (fun K' HK' => ?_) ?_
          · by_cases hkn : k = nb
            · have hkt : ((k : Int) == (nb : Int)) = true := by rw [beq_iff_eq]; omega
              have hkt' : (k : Int) = (nb : Int) := by omega
              obtain ⟨c14, f14⟩ := o9.at (j := 14) (by rw [length_begL]; decide)
              have o10 := o9.set (j := 14) (by rw [length_begL]; decide) (18446744073709551615 - (begL (bch zs k) (T : Nat) false).getD 14 0)
              rw [EBEG.out.2, EB14.out] at o10
              rw [EB14.out] at c14
              have hb10 := hb9.setCell (p := ⟨gv, 14, none⟩) hgv (.int .u64 (18446744073709551615 - 2270897969802886507))
              have HY := Lib.hid (show Own _ w5.heap.size .u64 30 (.slice (some ⟨gv, 0, none⟩) 16 cv) (begL (bch zs k) (T : Nat) (decide (k = nb))) ∧ _ from ⟨by rw [decide_eq_true hkn]; exact o10, hb10⟩)
              clear o10 hb10 o9 hb9
              go_wp2_with fail
              exact HK'.out _ _ rfl HY.out
            · have hkt : ((k : Int) == (nb : Int)) = false := by rw [beq_eq_false_iff_ne]; omega
              have hkt' : ¬ (k : Int) = (nb : Int) := by omega
              go_wp2_with fail
              exact HK'.out _ _ rfl ⟨by rw [decide_eq_false hkn]; exact o9, hb9⟩
          · intro s w' hR
            dsimp only [mask, kLast, Nat.reduceAdd]
            obtain ⟨oB, hbB⟩ := hR
            clear o9 hb9
            obtain ⟨V0, eV0⟩ : ∃ V0, begL (bch zs k) (T : Nat) (decide (k = nb)) = V0 := ⟨_, rfl⟩
            rw [eV0] at oB i6 hB16 HSUC
            clear eV0 EBEG EB14 E12
            have bMB := bM.below hbB gM
            have bHB := bH5.below hbB (by omega)
            have hb0B : Below gh w w' := hb05.trans (hbB.mono (by have := hb05.size; omega))
            have hgv2 := oB.lt (by omega)
            have hgmv : gm ≠ gv := by omega
            have hghv : gh ≠ gv := by omega
            have hgv' : gh ≤ gv := by omega
            generalize w5.heap.size = B5 at *
            clear bM bH5 hbB hb05
            go_wp2_with fail
            refine wp_loop_mask kRound (fun m s wk => ∃ r : Nat, m + r = 12 ∧ s 10 = .int .i64 r ∧ Own wk B5 .u64 30 (.slice (some ⟨gv, 0, none⟩) 16 cv) (roundsB W V0 r) ∧ Blk wk gm 30 (nums .u64 W) ∧ Blk wk gh 30 (nums .u64 (stL (bch zs k))) ∧ Below gh w wk) 12 ⟨0, rfl, rfl, by rw [roundsB_zero]; exact oB, bMB, bHB, hb0B⟩ ?_
            clear oB bMB bHB hb0B
            intro n6 t6 wr hrel K6 HK6
            dsimp only [mask, kRound, Nat.reduceAdd]
            obtain ⟨r, hm6, e10, oV, bM, bH, hbr⟩ := hrel
            rw [e10]
            clear e10
            have hr12 : r ≤ 12 := by omega
            by_cases hlr : r < 12
            · go_wp2_with fail
              refine (ref_row wr r (by omega)).mono ?_
              rintro e wp ⟨rfl, bP, hbp⟩
              have hgp : gv < wr.heap.size := oV.lt (by rw [length_roundsB]; omega)
              have R0 : RSt wp B5 gv cv gm wr.heap.size W r (roundsB W V0 r) 0 := ⟨by rw [turnK_zero]; exact oV.below hbp, bM.on hbp, bP⟩
              have hVr : (roundsB W V0 r).length = 16 := by rw [length_roundsB]; exact hB16
              have hIr := in6_roundsB W i6 r
              have bHp := bH.on hbp
              have hgpv : wr.heap.size ≠ gv := by omega
              have hbp0 := hbr.trans (hbp.mono (Nat.le_trans hgh' hbr.size))
              have ER := Lib.hid (roundsB_succ W V0 r)
              clear oV bM bH hbp hbr bP
              generalize hgpe : wr.heap.size = gp at *
              clear hgpe
              obtain ⟨a0, d0, x0, y0, va, vb, p0, p1, m0, m1, HMX⟩ := R0.go hVr hIr hW16 (by decide) hgmv hgpv 0 1 0 4 8 12 rfl rfl rfl rfl rfl rfl 0 4 8 12 rfl rfl rfl rfl
              have HX0 := Lib.hid HMX
              clear HMX R0
              go_wp2_with fail
              refine wp_region_quiet_tail 13 (by kernel_rfl) (by kernel_rfl) ?_
              simp only [List.take_succ_cons, List.take_zero, List.drop_succ_cons, List.drop_zero]
              repeat (quiet_step (fail))
              refine wpQuiet_nil ?_
              rintro _ ⟨q0, rfl⟩
              go_wp2_with fail
              refine (HX0.out q0).mono ?_
              rintro e u1 ⟨rfl, R1, ho⟩
              replace bHp := bHp.only ho hghv
              replace hbp0 := hbp0.trans (ho.below hgv' (Nat.le_trans hgh' hbp0.size))
              clear HX0 p0 p1 m0 m1 va vb ho
              obtain ⟨a1, d1, x1, y1, va, vb, p0, p1, m0, m1, HMX⟩ := R1.go hVr hIr hW16 (by decide) hgmv hgpv 2 3 1 5 9 13 rfl rfl rfl rfl rfl rfl 1 5 9 13 rfl rfl rfl rfl
              have HX1 := Lib.hid HMX
              clear HMX R1
              go_wp2_with fail
              refine wp_region_quiet_tail 13 (by kernel_rfl) (by kernel_rfl) ?_
              simp only [List.take_succ_cons, List.take_zero, List.drop_succ_cons, List.drop_zero]
              repeat (quiet_step (fail))
              refine wpQuiet_nil ?_
              rintro _ ⟨q1, rfl⟩
              go_wp2_with fail
              refine (HX1.out q1).mono ?_
              rintro e u2 ⟨rfl, R2, ho⟩
              replace bHp := bHp.only ho hghv
              replace hbp0 := hbp0.trans (ho.below hgv' (Nat.le_trans hgh' hbp0.size))
              clear HX1 p0 p1 m0 m1 va vb ho
              obtain ⟨a2, d2, x2, y2, va, vb, p0, p1, m0, m1, HMX⟩ := R2.go hVr hIr hW16 (by decide) hgmv hgpv 4 5 2 6 10 14 rfl rfl rfl rfl rfl rfl 2 6 10 14 rfl rfl rfl rfl
              have HX2 := Lib.hid HMX
              clear HMX R2
              go_wp2_with fail
              refine wp_region_quiet_tail 13 (by kernel_rfl) (by kernel_rfl) ?_
              simp only [List.take_succ_cons, List.take_zero, List.drop_succ_cons, List.drop_zero]
              repeat (quiet_step (fail))
              refine wpQuiet_nil ?_
              rintro _ ⟨q2, rfl⟩
              go_wp2_with fail
              refine (HX2.out q2).mono ?_
              rintro e u3 ⟨rfl, R3, ho⟩
              replace bHp := bHp.only ho hghv
              replace hbp0 := hbp0.trans (ho.below hgv' (Nat.le_trans hgh' hbp0.size))
              clear HX2 p0 p1 m0 m1 va vb ho
              obtain ⟨a3, d3, x3, y3, va, vb, p0, p1, m0, m1, HMX⟩ := R3.go hVr hIr hW16 (by decide) hgmv hgpv 6 7 3 7 11 15 rfl rfl rfl rfl rfl rfl 3 7 11 15 rfl rfl rfl rfl
              have HX3 := Lib.hid HMX
              clear HMX R3
              go_wp2_with fail
              refine wp_region_quiet_tail 13 (by kernel_rfl) (by kernel_rfl) ?_
              simp only [List.take_succ_cons, List.take_zero, List.drop_succ_cons, List.drop_zero]
              repeat (quiet_step (fail))
              refine wpQuiet_nil ?_
              rintro _ ⟨q3, rfl⟩
              go_wp2_with fail
              refine (HX3.out q3).mono ?_
              rintro e u4 ⟨rfl, R4, ho⟩
              replace bHp := bHp.only ho hghv
              replace hbp0 := hbp0.trans (ho.below hgv' (Nat.le_trans hgh' hbp0.size))
              clear HX3 p0 p1 m0 m1 va vb ho
              obtain ⟨a4, d4, x4, y4, va, vb, p0, p1, m0, m1, HMX⟩ := R4.go hVr hIr hW16 (by decide) hgmv hgpv 8 9 0 5 10 15 rfl rfl rfl rfl rfl rfl 0 5 10 15 rfl rfl rfl rfl
              have HX4 := Lib.hid HMX
              clear HMX R4
              go_wp2_with fail
              refine wp_region_quiet_tail 13 (by kernel_rfl) (by kernel_rfl) ?_
              simp only [List.take_succ_cons, List.take_zero, List.drop_succ_cons, List.drop_zero]
              repeat (quiet_step (fail))
              refine wpQuiet_nil ?_
              rintro _ ⟨q4, rfl⟩
              go_wp2_with fail
              refine (HX4.out q4).mono ?_
              rintro e u5 ⟨rfl, R5, ho⟩
              replace bHp := bHp.only ho hghv
              replace hbp0 := hbp0.trans (ho.below hgv' (Nat.le_trans hgh' hbp0.size))
              clear HX4 p0 p1 m0 m1 va vb ho
              obtain ⟨a5, d5, x5, y5, va, vb, p0, p1, m0, m1, HMX⟩ := R5.go hVr hIr hW16 (by decide) hgmv hgpv 10 11 1 6 11 12 rfl rfl rfl rfl rfl rfl 1 6 11 12 rfl rfl rfl rfl
              have HX5 := Lib.hid HMX
              clear HMX R5
              go_wp2_with fail
              refine wp_region_quiet_tail 13 (by kernel_rfl) (by kernel_rfl) ?_
              simp only [List.take_succ_cons, List.take_zero, List.drop_succ_cons, List.drop_zero]
              repeat (quiet_step (fail))
              refine wpQuiet_nil ?_
              rintro _ ⟨q5, rfl⟩
              go_wp2_with fail
              refine (HX5.out q5).mono ?_
              rintro e u6 ⟨rfl, R6, ho⟩
              replace bHp := bHp.only ho hghv
              replace hbp0 := hbp0.trans (ho.below hgv' (Nat.le_trans hgh' hbp0.size))
              clear HX5 p0 p1 m0 m1 va vb ho
              obtain ⟨a6, d6, x6, y6, va, vb, p0, p1, m0, m1, HMX⟩ := R6.go hVr hIr hW16 (by decide) hgmv hgpv 12 13 2 7 8 13 rfl rfl rfl rfl rfl rfl 2 7 8 13 rfl rfl rfl rfl
              have HX6 := Lib.hid HMX
              clear HMX R6
              go_wp2_with fail
              refine wp_region_quiet_tail 13 (by kernel_rfl) (by kernel_rfl) ?_
              simp only [List.take_succ_cons, List.take_zero, List.drop_succ_cons, List.drop_zero]
              repeat (quiet_step (fail))
              refine wpQuiet_nil ?_
              rintro _ ⟨q6, rfl⟩
              go_wp2_with fail
              refine (HX6.out q6).mono ?_
              rintro e u7 ⟨rfl, R7, ho⟩
              replace bHp := bHp.only ho hghv
              replace hbp0 := hbp0.trans (ho.below hgv' (Nat.le_trans hgh' hbp0.size))
              clear HX6 p0 p1 m0 m1 va vb ho
              obtain ⟨a7, d7, x7, y7, va, vb, p0, p1, m0, m1, HMX⟩ := R7.go hVr hIr hW16 (by decide) hgmv hgpv 14 15 3 4 9 14 rfl rfl rfl rfl rfl rfl 3 4 9 14 rfl rfl rfl rfl
              have HX7 := Lib.hid HMX
              clear HMX R7
              go_wp2_with fail
              refine wp_region_quiet_tail 13 (by kernel_rfl) (by kernel_rfl) ?_
              simp only [List.take_succ_cons, List.take_zero, List.drop_succ_cons, List.drop_zero]
              repeat (quiet_step (fail))
              refine wpQuiet_nil ?_
              rintro _ ⟨q7, rfl⟩
              go_wp2_with fail
              refine (HX7.out q7).mono ?_
              rintro e u8 ⟨rfl, R8, ho⟩
              replace bHp := bHp.only ho hghv
              replace hbp0 := hbp0.trans (ho.below hgv' (Nat.le_trans hgh' hbp0.size))
              clear HX7 p0 p1 m0 m1 va vb ho
              have oN := R8.own
              rw [← ER.out] at oN
              have bN := R8.m
              clear R8
              go_wp2_with fail
              exact HK6.out _ _ (n6 - 1) (by omega) rfl ⟨r + 1, by omega, (show Value.int .i64 ((r : Int) + 1) = .int .i64 ((r + 1 : Nat) : Int) by go_num), oN, bN, bHp, hbp0⟩
            · have hr12' : r = 12 := by omega
              rw [hr12'] at oV
              clear hr12'
              have hS16 : (roundsB W V0 12).length = 16 := by rw [length_roundsB]; exact hB16
              obtain ⟨S, eS⟩ : ∃ S, roundsB W V0 12 = S := ⟨_, rfl⟩
              rw [eS] at oV hS16 HSUC
              clear eS
              rw [← HAT.out] at bH
              have hN8 := length_hS zs (k + 1)
              obtain ⟨N, eN⟩ : ∃ N, hS zs (k + 1) = N := ⟨_, rfl⟩
              rw [eN] at hN8 HSUC
              have HEN := Lib.hid eN
              clear eN
              generalize hS zs k = H0 at *
              have hUU : N.length = H0.length := by rw [hN8, hH8]
              go_wp2_with fail
              refine wp_loop_mask kSum (fun m s wk => ∃ q : Nat, m + q = 8 ∧ s 12 = .int .i64 q ∧ Blk wk gh 30 (nums .u64 (upto N H0 q)) ∧ Own wk B5 .u64 30 (.slice (some ⟨gv, 0, none⟩) 16 cv) S ∧ Below gh w wk) 8 ⟨0, rfl, rfl, by rw [upto_zero]; exact bH, oV, hbr⟩ ?_
              clear bH oV hbr bM
              intro n7 t7 wr hrel K7 HK7
              dsimp only [mask, kSum, Nat.reduceAdd]
              obtain ⟨q, hm7, e12, bH, oV, hbr⟩ := hrel
              rw [e12]
              clear e12
              have hq8 : q ≤ 8 := by omega
              by_cases hlq : q < 8
              · have hlU : (upto N H0 q).length = 8 := by rw [length_upto _ _ _ hUU]; exact hH8
                obtain ⟨cS, _⟩ := oV.at (j := q) (by omega)
                obtain ⟨cS8, _⟩ := oV.at (j := q + 8) (by omega)
                have cG : wr.cell? ⟨gh, q, none⟩ = some (.int .u64 (H0.getD q 0)) := by
                  rw [bH.cell, nums_get .u64 _ _ (by omega), getD_upto_ge _ _ _ _ hUU (Nat.le_refl _) (by omega)]
                have fG := bH.free q
                have hnew := bH.put q (.int .u64 (N.getD q 0))
                rw [nums_put, upto_set _ _ _ hUU (by omega)] at hnew
                have hoV := oV.keep (w' := wr.setCell ⟨gh, q, none⟩ (.int .u64 (N.getD q 0))) (fun i h1 h2 => Below.heap_setCell wr _ _ i (by show i ≠ gh; omega))
                have hbn := hbr.setCell (p := ⟨gh, q, none⟩) (Nat.le_refl _) (.int .u64 (N.getD q 0))
                rw [HSUC.out q hlq] at hnew hoV hbn
                have HX := Lib.hid (And.intro hnew (And.intro hoV hbn))
                obtain ⟨q8, ek⟩ : ∃ q8, q + 8 = q8 := ⟨_, rfl⟩
                have j8 : IntKind.i64.wrap ((q : Int) + 8) = (q8 : Int) := by rw [IntWalk.i64_in _ (by omega)]; omega
                have v8 : (q8 : Int) < 16 := by omega
                have v0 : (q : Int) < 16 := by omega
                have v1 : (q : Int) < 8 := by omega
                rw [ek] at cS8 HX
                clear bH oV hbr hnew hoV hbn ek hlU
                generalize H0.getD q 0 = x at *
                generalize S.getD q 0 = y at *
                generalize S.getD q8 0 = z at *
                go_wp2_with fail
                go_still_tail 18, (by kernel_rfl)
                go_wp2_with fail
                exact HK7.out _ _ (n7 - 1) (by omega) rfl ⟨q + 1, by omega, (show Value.int .i64 ((q : Int) + 1) = .int .i64 ((q + 1 : Nat) : Int) by go_num), HX.out.1, HX.out.2.1, below_drawn HX.out.2.2⟩
              · have hqe : q = H0.length := by omega
                rw [hqe, upto_all _ _ hUU, ← HEN.out] at bH
                clear hqe oV
                go_wp2_with fail
                exact HK4.out _ _ (n4 - 1) (by omega) rfl ⟨k + 1, by omega, (show Value.int .i64 ((k : Int) + 1) = .int .i64 ((k + 1 : Nat) : Int) by go_num), bH, hbr⟩
    · have hke : bnb zs.length < k := by rw [HNB.out]; omega
      rw [hS_end zs k hke] at bH
      have hlk' : ¬ ((k : Int) < (nb : Int) + 1) := by omega
      have hSH : Hid (blakeL zs = le8s ((bend zs).take 4)) := rfl
      have iB := in6_bend zs (by rw [EN.out]; omega)
      have lB := length_bend zs
      clear hke
      generalize bend zs = S at *
      have gK : gh < wr.heap.size := bH.lt
      go_wp2_with fail
      refine wp_loop_mask kOut (fun m s wk => ∃ i : Nat, m + i = 4 ∧ s 14 = .int .i64 i ∧ Own wk wr.heap.size .u8 5 (s 13) (le8s (S.take i)) ∧ Below wr.heap.size wr wk) 4 ⟨0, rfl, rfl, Own.nil _ _ _ _, Below.refl _ _⟩ ?_
      intro n8 t8 w8 hrel K8 HK8
      dsimp only [mask, kOut, Nat.reduceAdd]
      obtain ⟨i, hm8, e14, hown, hb8⟩ := hrel
      rw [e14]
      clear e14
      have hi : i ≤ 4 := by omega
      generalize t8 13 = v13 at *
      by_cases hli : i < 4
      · have hli' : (i : Int) < 8 := by omega
        have hli4 : (i : Int) < 4 := by omega
        have HE := Lib.hid (le8s_take S i (by omega))
        have rx := iB.get i
        have lt8 : Hid ((le8s (S.take i)).length = 8 * i) := by unfold Hid; rw [length_le8s, List.length_take]; omega
        have bH8 := bH.below hb8 gK
        have cX := (bH8.cell i).trans (nums_get .u64 S i (by omega))
        obtain ⟨x, ex⟩ : ∃ x, S.getD i 0 = x := ⟨_, rfl⟩
        rw [ex] at cX HE rx
        have CX := Lib.hid cX
        clear ex bH8 cX
        go_wp2_with fail
        refine wp_loop_mask kIn (fun m s wk => ∃ j : Nat, m + j = 8 ∧ s 15 = .int .i64 j ∧ Own wk wr.heap.size .u8 5 (s 13) (le8s (S.take i) ++ le j x) ∧ Below wr.heap.size wr wk ∧ wk.cell? ⟨gh, i, none⟩ = some (.int .u64 x)) 8 ⟨0, rfl, rfl, by rw [show le 0 x = [] from rfl, List.append_nil]; exact hown, hb8, CX.out⟩ ?_
        clear hown hb8 CX
        intro n9 t9 w9 hrel K9 HK9
        dsimp only [mask, kIn, Nat.reduceAdd]
        obtain ⟨j, hm9, e15, hown, hb9, cX⟩ := hrel
        rw [e15]
        clear e15
        have hj : j ≤ 8 := by omega
        generalize t9 13 = v13 at *
        by_cases hlj : j < 8
        · have hsh : x / 2 ^ (8 * j) = x / 256 ^ j := by rw [Int.pow_mul]; rfl
          have hq0 : (0 : Int) ≤ x / 256 ^ j := Int.ediv_nonneg rx.1 (Int.le_of_lt (Int.pow_pos (by decide)))
          have hq1 : x / 256 ^ j ≤ x := Int.ediv_le_self _ rx.1
          have HLE := Lib.hid (le_succ j x)
          have hlen : (le8s (S.take i) ++ le j x).length = 8 * i + j := by rw [List.length_append, lt8.out, length_le]
          obtain ⟨Ao, co, rfl, _, _, _, _, _⟩ := hown.form
          rw [hlen]
          obtain ⟨p, ep⟩ : ∃ p, x / 256 ^ j = p := ⟨_, rfl⟩
          rw [ep] at hsh hq0 hq1 HLE
          clear ep
          have gs := hb9.size
          have b2 : Blk (w9.alloc (.cells #[.int .u8 (p % 256)] 5)) w9.heap.size 5 (nums .u8 [p % 256]) := Blk.fresh _ _ _
          obtain ⟨v3, w3, hr3, o3, hb3, _⟩ := run_append_nums (P := Tryd.prog) (ty := 22) (xs := [p % 256]) (cap := 1) Tryd.underlying22 info5 (by decide) (hown.alloc (.cells #[.int .u8 (p % 256)] 5)) b2.rd (fun h => by cases h) (by rw [hlen]; simp; omega) (by simp; omega)
          rw [hlen, show ([p % 256] : List Int).length = 1 from rfl] at hr3
          rw [List.append_assoc, ← HLE.out] at o3
          have cX3 : w3.cell? ⟨gh, i, none⟩ = some (.int .u64 x) := (hb3.cell (p := ⟨gh, i, none⟩) (show gh < _ by omega)).trans (((Below.refl _ w9).alloc (Nat.le_refl _) _).cell (p := ⟨gh, i, none⟩) (show gh < _ by omega) |>.trans cX)
          have HR3 := Lib.hid hr3
          have O3 := Lib.hid o3
          have HB3 := Lib.hid ((hb9.alloc gs (.cells #[.int .u8 (p % 256)] 5)).trans hb3)
          clear hr3 o3 hb3 b2 hown hlen hb9
          go_wp2_with ((with_reducible refine is_append 22 rfl ?_); (with_reducible refine wpList_append_run rfl rfl HR3.out ?_ ?_ ?_); (· rfl); (· rfl))
          exact HK9.out _ _ (n9 - 1) (by omega) rfl ⟨j + 1, by omega, (show Value.int .i64 ((j : Int) + 1) = .int .i64 ((j + 1 : Nat) : Int) by go_num), O3.out, HB3.out, cX3⟩
        · have hj8 : j = 8 := by omega
          rw [hj8, HE.out] at hown
          clear hj8
          go_wp2_with fail
          exact HK8.out _ _ (n8 - 1) (by omega) rfl ⟨i + 1, by omega, (show Value.int .i64 ((i : Int) + 1) = .int .i64 ((i + 1 : Nat) : Int) by go_num), hown, hb9⟩
      · have hi4 : i = 4 := by omega
        rw [hi4, ← hSH.out] at hown
        obtain ⟨Ao, co, rfl, _, _, _, _, hR⟩ := hown.form
        rw [length_blakeL]
        have HRR := Lib.hid hR
        have HBB : Hid (Below w.heap.size w w8) := by unfold Hid; rw [HGH.out]; exact hbk.trans (hb8.mono (by omega))
        clear hown hR hb8 hi4
        go_wp2_with fail
        go_ret
        exact ⟨Ao, co, rfl, HRR.out, by have := HBB.out; rwa [HGH.out] at this⟩
end Go.Proofs.YtgcboodlneknpaaDoor
