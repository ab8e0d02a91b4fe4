/- Package cand: the document's example: Open. -/
import Derived.Test.YtmihoeholcaokaaKBH
namespace Go.Proofs.Ytmihoeholcaokaa
open Go.RowKit

theorem setC_0 : setC 0 = #[.int .u64 0, .int .u64 0, .int .u64 0, .int .u64 0] := rfl
theorem setC_1 : setC 1 = #[.int .u64 1, .int .u64 0, .int .u64 0, .int .u64 0] := rfl
theorem setC_4 : setC 4 = #[.int .u64 4, .int .u64 0, .int .u64 0, .int .u64 0] := rfl
theorem setC_6 : setC 6 = #[.int .u64 6, .int .u64 0, .int .u64 0, .int .u64 0] := rfl
theorem setC_7 : setC 7 = #[.int .u64 7, .int .u64 0, .int .u64 0, .int .u64 0] := rfl
theorem blk_set4 {w : World} {g : Nat} {t : TypeId} {a b c d : Value} (x y z u : Value) (h : Blk w g t #[a, b, c, d]) : Blk ((((w.setCell ⟨g, 0, none⟩ x).setCell ⟨g, 1, none⟩ y).setCell ⟨g, 2, none⟩ z).setCell ⟨g, 3, none⟩ u) g t #[x, y, z, u] := (((h.put 0 x).put 1 y).put 2 z).put 3 u
theorem far_set4 {w : World} {g i : Nat} {t : TypeId} {cs : Array Value} (x y z u : Value) (h : Blk w i t cs) (hi : i ≠ g) : Blk ((((w.setCell ⟨g, 0, none⟩ x).setCell ⟨g, 1, none⟩ y).setCell ⟨g, 2, none⟩ z).setCell ⟨g, 3, none⟩ u) i t cs := (((h.far (p := ⟨g, 0, none⟩) hi x).far (p := ⟨g, 1, none⟩) hi y).far (p := ⟨g, 2, none⟩) hi z).far (p := ⟨g, 3, none⟩) hi u
theorem below_set4 {w0 w : World} {B g : Nat} (x y z u : Value) (h : Below B w0 w) (hg : B ≤ g) : Below B w0 ((((w.setCell ⟨g, 0, none⟩ x).setCell ⟨g, 1, none⟩ y).setCell ⟨g, 2, none⟩ z).setCell ⟨g, 3, none⟩ u) := (((h.setCell (p := ⟨g, 0, none⟩) hg x).setCell (p := ⟨g, 1, none⟩) hg y).setCell (p := ⟨g, 2, none⟩) hg z).setCell (p := ⟨g, 3, none⟩) hg u
def nodeC (k lo hi : Int) (L : Value) : Array Value := #[.int .i64 k, .int .i64 lo, .int .i64 hi, .int .i64 0, .int .u64 0, .string ⟨#[]⟩, .slice none 0 0, L, .slice none 0 0]
theorem load_node {g gN : Nat} {W : World} (h : Aw W g gN) (i : Nat) (a b c : Array Value) (hc : aw19n g = a ++ c ++ b) (ha : a.size = i) (h9 : c.size = 9) : (Instr.loadAt 42 (.pointer (some ⟨gN, i, none⟩))).run Try.prog W = .ok (.agg c) W :=
  run_load_blk (P := Try.prog) h.n hc ha Try.underlying42 rfl (by rw [h9]; kernel_rfl)
theorem load_ch {g gN : Nat} {W : World} (h : Aw W g gN) : (Instr.loadAt 42 (.pointer (some ⟨gN, 0, none⟩))).run Try.prog W = .ok (.agg (nodeC 10 0 0 (.slice (some ⟨g, 0, none⟩) 2 2))) W := load_node h 0 #[] (nodeC 1 0 5 (.slice none 0 0) ++ nodeC 3 1 2 (.slice none 0 0)) _ (by simp [aw19n, nodeC]) rfl rfl
theorem load_in {g gN : Nat} {W : World} (h : Aw W g gN) : (Instr.loadAt 42 (.pointer (some ⟨gN, 9, none⟩))).run Try.prog W = .ok (.agg (nodeC 1 0 5 (.slice none 0 0))) W := load_node h 9 (nodeC 10 0 0 (.slice (some ⟨g, 0, none⟩) 2 2)) (nodeC 3 1 2 (.slice none 0 0)) _ (by simp [aw19n, nodeC]) (by simp [nodeC]) rfl
theorem load_st {g gN : Nat} {W : World} (h : Aw W g gN) : (Instr.loadAt 42 (.pointer (some ⟨gN, 18, none⟩))).run Try.prog W = .ok (.agg (nodeC 3 1 2 (.slice none 0 0))) W := load_node h 18 (nodeC 10 0 0 (.slice (some ⟨g, 0, none⟩) 2 2) ++ nodeC 1 0 5 (.slice none 0 0)) #[] _ (by simp [aw19n, nodeC]) (by simp [nodeC]) rfl
theorem node_in (W : World) (cs : Array Value) (h9 : cs.size = 9) (h1 : cs.all (·.oneCell') = true) : ∃ Wz W1, W.alloc (.cells #[.int .i64 0, .int .i64 0, .int .i64 0, .int .i64 0, .int .u64 0, .string ⟨#[]⟩, .slice none 0 0, .slice none 0 0, .slice none 0 0] 42) = Wz ∧ (Instr.storeAt 42 (.pointer (some ⟨W.heap.size, 0, none⟩)) (.agg cs)).run Try.prog Wz = .ok () W1 ∧ Blk W1 W.heap.size 42 cs ∧ Below W.heap.size W W1 :=
  ⟨_, _, rfl, run_store_all (P := Try.prog) (ty := 42) (Blk.fresh W 42 _) (by rw [h9]; kernel_rfl) h9.symm h1, (Blk.fresh W 42 _).setRow cs, below_row (below_alloc W _) (Nat.le_refl _) cs⟩
def kOpen : List Bool := [false, false, false, false, false, true, false, false, true, true, true, true, false, false, false, false, false, false, false, false, false, false, false, false, false, false, false, false, false, false, false, false, false, false, false]
set_option maxRecDepth 100000 in
set_option maxHeartbeats 8000000 in
theorem cand_Open (g gN : Nat) (w : World) (h : Aw w g gN) : Calls Try.prog 15 #[.agg #[.slice (some ⟨gN, 0, none⟩) 3 3], .agg (setC 1)] w fun e w' => e = .returned (.agg (setC 7)) ∧ Below w.heap.size w w' := by
  obtain ⟨w1, hw1, b1, S1⟩ := iblk1 w 45 #[.slice (some ⟨gN, 0, none⟩) 3 3]
  obtain ⟨w2, hw2, b2, S2⟩ := sblock w1 1
  obtain ⟨w3, hw3, b3, S3⟩ := sblock w2 0
  have e1 : w1.heap.size = w.heap.size + 1 := by rw [← hw1]; simp
  have e2 : w2.heap.size = w.heap.size + 2 := by rw [← hw2]; simp [e1]
  have e3 : w3.heap.size = w.heap.size + 3 := by rw [← hw3]; simp [e2]
  have S12 := S1.trans (S2.mono S1.size)
  have S := S12.trans (S3.mono S12.size)
  have HA := Lib.hid (h.on S)
  have HGL := Lib.hid (And.intro h.l.lt h.n.lt)
  have HS := Lib.hid S
  have HB1 := Lib.hid ((b1.on S2).on S3)
  have HB2 := Lib.hid (b2.on S3)
  have HB3 := Lib.hid b3
  rw [e1] at HB2
  rw [e2] at HB3
  have HE3 := Lib.hid e3
  have p0 := sblk HB1.out
  rw [setC_0] at hw3
  rw [setC_1] at hw2
  have HND := Lib.hid (fun W (hW : Below w3.heap.size w3 W) => cand_nodes g gN W (HA.out.on hW))
  have HAN := Lib.hid (fun W => cand_And 1 7 W)
  rw [show 1 &&& 7 = 1 by decide] at HAN
  rw [setC_1, setC_7] at HAN
  simp only [setC_7] at HND ⊢
  rw [setC_1] at HB2 ⊢
  obtain ⟨q0, q1, q2, q3, -⟩ := cells4 HB2.out
  clear b1 b2 b3 S1 S2 S3 S12 S h
  obtain ⟨r0, r1, r2, r3, -⟩ := cells4 (HB2.out.alloc (.cells #[.int .u64 0, .int .u64 0, .int .u64 0, .int .u64 0] 27))
  have pr := sblk (HB1.out.alloc (.cells #[.int .u64 0, .int .u64 0, .int .u64 0, .int .u64 0] 27))
  have hfol : Try.prog.follows Departure.mixedOrders = true := by kernel_rfl
  go_enter Try.func15, Try.ntmps15
  go_wp2_with fail

  refine wp_cut_mask kOpen (fun t W => ∃ b, t 5 = .pointer (some ⟨b, 0, none⟩) ∧ Blk W b 27 #[.int .u64 1, .int .u64 0, .int .u64 0, .int .u64 0] ∧ Below w3.heap.size w3 W ∧ w3.heap.size ≤ b) (fun K' HK' => ?_) ?_
  · go_region_with (first
      | (go_at_call 17; refine (HND.out _ ?hb).mono ?_; (case hb => ((repeat (first | refine below_drawn ?_ | refine Below.alloc ?_ (by simp) _)); exact Below.refl _ _)); rintro e w4 ⟨rfl, hb4⟩; have hq4 : Below w3.heap.size w3 w4 := Below.trans (by (repeat (first | refine below_drawn ?_ | refine Below.alloc ?_ (by simp) _)); exact Below.refl _ _) (hb4.mono (by simp)); have HQ4 := Lib.hid hq4; obtain ⟨y0, y1, y2, y3, -⟩ := cells4 (HB2.out.on hq4); have pp4 := sblk (HB1.out.on hq4); obtain ⟨z0, z1, z2, z3, -⟩ := cells4 ((HB2.out.on hq4).alloc (.cells #[.int .u64 0, .int .u64 0, .int .u64 0, .int .u64 0] 27)); clear hq4; have d1 : w.heap.size + 1 ≠ w4.heap.size := (by have := HQ4.out.size; omega); have d2 : w4.heap.size ≠ w.heap.size + 1 := (by have := HQ4.out.size; omega); first | (have HX4 := Lib.hid ((fun (h : Blk _ (w.heap.size + 3) 27 #[.int .u64 0, .int .u64 0, .int .u64 0, .int .u64 0]) => h.on hb4) (Blk.freshAt w3 _ _ _ HE3.out.symm))) | skip)
      | (go_at_call 8; refine (HAN.out _).mono ?_; rintro e w5 ⟨rfl, hb5⟩; have HQ5 := Lib.hid (show Below w3.heap.size w3 w5 from Below.trans (by (repeat (first | refine below_drawn ?_ | refine Below.alloc ?_ (by have := HQ4.out.size; simp; omega) _)); exact HQ4.out) (hb5.mono (by have := HQ4.out.size; simp; omega))); first | (have HX5 := Lib.hid (HX4.out.on hb5); obtain ⟨x0, x1, x2, x3, xf⟩ := cells4 HX5.out) | (have HX5 := Lib.hid ((fun (h : Blk _ w4.heap.size 27 #[.int .u64 0, .int .u64 0, .int .u64 0, .int .u64 0]) => h.on hb5) (Blk.fresh w4 _ _)); obtain ⟨x0, x1, x2, x3, xf⟩ := cells4 HX5.out) | skip)
      | fail)
    all_goals
      have q4 := HQ4.out.size
      have q5 := HQ5.out.size
      refine HK'.out _ _ rfl ⟨_, rfl, ?_, ?_, ?_⟩
      · first | (with_reducible exact Blk.fresh w5 _ _) | exact blk_set4 _ _ _ _ HX5.out
      · first | (with_reducible exact HQ5.out.alloc q5 _) | (with_reducible exact below_set4 _ _ _ _ HQ5.out q4) | exact below_set4 _ _ _ _ HQ5.out (Nat.le_of_eq HE3.out)
      · first | (with_reducible exact q5) | (with_reducible exact q4) | exact Nat.le_of_eq HE3.out
  · intro t W hR
    obtain ⟨b, e5, kB, kS, kb⟩ := hR
    dsimp only [mask, kOpen, Nat.reduceAdd]
    rw [e5]
    generalize t 8 = t8
    generalize t 9 = t9
    generalize t 10 = t10
    generalize t 11 = t11
    have hkb : w.heap.size + 3 ≤ b := by rw [← HE3.out]; exact kb
    have HP := Lib.hid (HB1.out.on kS)
    have HZ := Lib.hid (HB3.out.on kS)
    have HAW := Lib.hid (HA.out.on kS)
    have HSW := Lib.hid (HS.out.trans (kS.mono HS.out.size))
    have pp := sblk HP.out
    have HBB := Lib.hid kB
    clear HA HS
    have HA := HAW
    have HS := HSW
    have HKB := Lib.hid hkb
    clear HAW HSW hkb
    have HHA := Lib.hid (fun W => cand_Has 1 0 W)
    rw [setC_1, show hasB 1 0 = true by decide] at HHA
    have HOR := Lib.hid (fun W => cand_Or 1 6 W)
    rw [setC_1, setC_6, show 1 ||| 6 = 7 by decide, setC_7] at HOR
    clear e5 kB kS kb HND HAN HB1 HB2 HB3 p0 pr r0 r1 r2 r3 q0 q1 q2 q3 hw1 hw2 hw3 e1 e2 e3
    go_wp2_with fail
    clear pp
    refine wp_loop_rounds 4 ?_
    rw [rounds_succ]
    obtain ⟨WzW1, W1, hWz, hst, k1, S1⟩ := node_in W (nodeC 10 0 0 (.slice (some ⟨g, 0, none⟩) 2 2)) rfl (by simp [nodeC, Value.oneCell'])
    have HLN := Lib.hid (load_ch HA.out)
    have HST := Lib.hid hst
    have HS1 := Lib.hid (HS.out.trans (S1.mono HS.out.size))
    have HP1 := Lib.hid (HP.out.on S1)
    have HZ1 := Lib.hid (HZ.out.on S1)
    have HA1 := Lib.hid (HA.out.on S1)
    have HB1 := Lib.hid (HBB.out.on S1)
    have HK1 := Lib.hid k1
    obtain ⟨b0, b1, b2, b3, -⟩ := cells4 HB1.out
    have c0 : W1.cell? ⟨W.heap.size, 0, none⟩ = some (.int .i64 10) := by rw [k1.cell]; rfl
    unfold nodeC at HLN HST
    clear S1 k1 hst
    go_wp2_with (first
      | ((with_reducible refine is_load 42 rfl ?_); (with_reducible refine wpList_load_run rfl rfl HLN.out ?_ ?_); (· rfl))
      | ((with_reducible refine is_store 42 rfl ?_); (with_reducible refine wpList_store_run rfl rfl HST.out ?_ ?_ ?_); (· rfl); (· rfl))
      | (go_at_call 6; refine (HHA.out _).mono ?_; rintro e W2 ⟨rfl, hb2⟩)
      | fail)
    have HP2 := Lib.hid (HP1.out.on hb2)
    have HZ2 := Lib.hid (HZ1.out.on hb2)
    have HA2 := Lib.hid (HA1.out.on hb2)
    have HB2 := Lib.hid (HB1.out.on hb2)
    have HK2 := Lib.hid (HK1.out.on hb2)
    have HS2 := Lib.hid (HS1.out.trans (hb2.mono HS1.out.size))
    have c4 : W2.cell? ⟨W.heap.size, 7, none⟩ = some (.slice (some ⟨g, 0, none⟩) 2 2) := by rw [HK2.out.cell]; rfl
    obtain ⟨d0, d1, d2, d3, df⟩ := cells4 HB2.out
    have HOF : Hid (∀ Wx, Below W2.heap.size W2 Wx → Calls Try.prog 5 #[.slice (some ⟨g, 0, none⟩) 2 2] Wx fun e w' => e = .returned (.agg (setC (ofB' [1, 2]))) ∧ Below Wx.heap.size Wx w') := Lib.hid (fun Wx hW => cand_Of [1, 2] (some ⟨g, 0, none⟩) 2 Wx.heap.size Wx (Nat.le_refl _) (HA2.out.on hW).rd (by decide))
    rw [show ofB' [1, 2] = 6 by decide, setC_6] at HOF
    clear hb2 b0 b1 b2 b3 c0 HP1 HZ1 HA1 HB1 HK1 HS1 HLN HST HP HZ HA HBB HS hWz
    go_region_with (first
      | (go_at_call 5; refine (HOF.out _ ?hb).mono ?_; (case hb => ((repeat (refine below_drawn ?_)); exact Below.refl _ _)); rintro e W3 ⟨rfl, hb3⟩; have hq3 : Below W2.heap.size W2 W3 := Below.trans (by (repeat (refine below_drawn ?_)); exact Below.refl _ _) hb3; have HQ3 := Lib.hid hq3; obtain ⟨y0, y1, y2, y3, yf⟩ := cells4 (HB2.out.on hq3); clear hq3)
      | (go_at_call 7; refine (HOR.out _).mono ?_; rintro e W4 ⟨rfl, hb4⟩; have HQ4 := Lib.hid (show Below W2.heap.size W2 W4 from Below.trans (by (repeat (refine below_drawn ?_)); exact HQ3.out) (hb4.mono HQ3.out.size)); obtain ⟨z0, z1, z2, z3, zf⟩ := cells4 (HB2.out.on HQ4.out))
      | fail)
    all_goals
      have hkb := HKB.out
      have hgl := HGL.out
      have HBB := Lib.hid (blk_set4 (.int .u64 7) (.int .u64 0) (.int .u64 0) (.int .u64 0) (HB2.out.on HQ4.out))
      have HP := Lib.hid (far_set4 (g := b) (.int .u64 7) (.int .u64 0) (.int .u64 0) (.int .u64 0) (HP2.out.on HQ4.out) (by omega))
      have HZ := Lib.hid (far_set4 (g := b) (.int .u64 7) (.int .u64 0) (.int .u64 0) (.int .u64 0) (HZ2.out.on HQ4.out) (by omega))
      have HAl := far_set4 (g := b) (.int .u64 7) (.int .u64 0) (.int .u64 0) (.int .u64 0) (HA2.out.on HQ4.out).l (by omega)
      have HAn := far_set4 (g := b) (.int .u64 7) (.int .u64 0) (.int .u64 0) (.int .u64 0) (HA2.out.on HQ4.out).n (by omega)
      have HS := Lib.hid (below_set4 (g := b) (.int .u64 7) (.int .u64 0) (.int .u64 0) (.int .u64 0) (HS2.out.trans (HQ4.out.mono HS2.out.size)) (by omega))
      have HA := Lib.hid (Aw.mk HAl HAn)
      clear HAl HAn hkb hgl HP2 HZ2 HA2 HB2 HK2 HS2 HQ3 HQ4 hb3 hb4 HOF HOR HHA c4 d0 d1 d2 d3 df y0 y1 y2 y3 yf z0 z1 z2 z3 zf
      generalize (((W4.setCell ⟨b, 0, none⟩ (.int .u64 7)).setCell ⟨b, 1, none⟩ (.int .u64 0)).setCell ⟨b, 2, none⟩ (.int .u64 0)).setCell ⟨b, 3, none⟩ (.int .u64 0) = W5 at *
      go_wp2_with fail
      rw [rounds_succ]
      obtain ⟨WzW6, W6, hWz, hst, k1, S1⟩ := node_in W5 (nodeC 1 0 5 (.slice none 0 0)) rfl (by simp [nodeC, Value.oneCell'])
      have HLN := Lib.hid (load_in HA.out)
      have HST := Lib.hid hst
      have HS1 := Lib.hid (HS.out.trans (S1.mono HS.out.size))
      have HP1 := Lib.hid (HP.out.on S1)
      have HZ1 := Lib.hid (HZ.out.on S1)
      have HA1 := Lib.hid (HA.out.on S1)
      have HB1 := Lib.hid (HBB.out.on S1)
      have HK1 := Lib.hid k1
      obtain ⟨b0, b1, b2, b3, -⟩ := cells4 HB1.out
      have c0 : W6.cell? ⟨W5.heap.size, 0, none⟩ = some (.int .i64 1) := by rw [k1.cell]; rfl
      unfold nodeC at HLN HST
      clear S1 k1 hst
      go_wp2_with (first
        | ((with_reducible refine is_load 42 rfl ?_); (with_reducible refine wpList_load_run rfl rfl HLN.out ?_ ?_); (· rfl))
        | ((with_reducible refine is_store 42 rfl ?_); (with_reducible refine wpList_store_run rfl rfl HST.out ?_ ?_ ?_); (· rfl); (· rfl))
        | fail)
      clear HP HZ HA HBB HS HLN HST b0 b1 b2 b3 c0 HK1 hWz
      have HP := Lib.hid HP1.out
      have HZ := Lib.hid HZ1.out
      have HA := Lib.hid HA1.out
      have HBB := Lib.hid HB1.out
      have HS := Lib.hid HS1.out
      clear HP1 HZ1 HA1 HB1 HS1
      rw [rounds_succ]
      obtain ⟨WzW7, W7, hWz, hst, k1, S1⟩ := node_in W6 (nodeC 3 1 2 (.slice none 0 0)) rfl (by simp [nodeC, Value.oneCell'])
      have HLN := Lib.hid (load_st HA.out)
      have HST := Lib.hid hst
      have HS1 := Lib.hid (HS.out.trans (S1.mono HS.out.size))
      have HP1 := Lib.hid (HP.out.on S1)
      have HZ1 := Lib.hid (HZ.out.on S1)
      have HA1 := Lib.hid (HA.out.on S1)
      have HB1 := Lib.hid (HBB.out.on S1)
      have HK1 := Lib.hid k1
      obtain ⟨b0, b1, b2, b3, -⟩ := cells4 HB1.out
      have c0 : W7.cell? ⟨W6.heap.size, 0, none⟩ = some (.int .i64 3) := by rw [k1.cell]; rfl
      unfold nodeC at HLN HST
      clear S1 k1 hst
      go_wp2_with (first
        | ((with_reducible refine is_load 42 rfl ?_); (with_reducible refine wpList_load_run rfl rfl HLN.out ?_ ?_); (· rfl))
        | ((with_reducible refine is_store 42 rfl ?_); (with_reducible refine wpList_store_run rfl rfl HST.out ?_ ?_ ?_); (· rfl); (· rfl))
        | fail)
      clear HP HZ HA HBB HS HLN HST b0 b1 b2 b3 c0 HK1 hWz
      have HP := Lib.hid HP1.out
      have HZ := Lib.hid HZ1.out
      have HA := Lib.hid HA1.out
      have HBB := Lib.hid HB1.out
      have HS := Lib.hid HS1.out
      clear HP1 HZ1 HA1 HB1 HS1
      rw [rounds_succ]
      have HLD := Lib.hid (run_load_all (P := Try.prog) (ty := 27) HBB.out Try.underlying27 rfl set_info)
      have HST := Lib.hid (run_store_all (P := Try.prog) (ty := 27) (c' := #[.int .u64 7, .int .u64 0, .int .u64 0, .int .u64 0]) HZ.out set_info rfl (setC_one 7))
      go_wp2_with (first
        | ((with_reducible refine is_load 27 rfl ?_); (with_reducible refine wpList_load_run rfl rfl HLD.out ?_ ?_); (· rfl))
        | ((with_reducible refine is_store 27 rfl ?_); (with_reducible refine wpList_store_run rfl rfl HST.out ?_ ?_ ?_); (· rfl); (· rfl))
        | fail)
      refine bodyPost_ret (results_blk rfl _ rfl (HZ.out.setRow _) Try.underlying27 rfl set_info) rfl ?_
      exact ⟨rfl, below_row HS.out (by omega) _⟩
end Go.Proofs.Ytmihoeholcaokaa
