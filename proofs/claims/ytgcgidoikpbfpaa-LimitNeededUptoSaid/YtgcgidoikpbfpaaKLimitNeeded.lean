/-
  PROVED: the law LimitNeeded returns true for every item of bulk at most 1048576 and all limits, and leaves the item as it was (Rows.LimitNeededUptoSaid). Conditions: none beside the row's own.
-/
import Derived.Test.YtgcgidoikpbfpaaKBM
import Derived.Test.YtgcgidoikpbfpaaKAC
import Derived.JoinedCond
namespace Go.Proofs.Ytgcgidoikpbfpaa.limitNeeded
open Go.ChangeShapes Go.WideShapes Go.ChangeAt Go.RowKit Go.Sort

theorem need_false {x : It} (hx : okI 1048576 x) (h : needB x = false) : fitsR x 64 1024 1099511627776 ≠ 0 := fun e => by
  obtain ⟨_, hc, h1, h2, h3⟩ := fitsR_zero.1 e
  have ok := check_ok (N := 1048576) (by omega) hx hc
  have hp := encLen_pos ok
  have hd := depth_pos x
  unfold needB at h
  rw [hc, decide_eq_true rfl, Bool.true_and] at h
  have : rightL x.depth (max (x.lkey : Int) 1) x.enc.length = true := rightL_true.2 ⟨by omega, by omega, by omega, by omega, by omega, by omega⟩
  rw [h] at this
  cases this
theorem need_true {x : It} (h : needB x = true) : checkR wrongI x = 0 ∧ (1 ≤ (x.depth : Int) ∧ (x.depth : Int) ≤ 64 ∧ (x.lkey : Int) ≤ 1024 ∧ 1 ≤ (x.enc.length : Int) ∧ (x.enc.length : Int) ≤ 2305843009213693951) ∧ rightL x.depth (max (x.lkey : Int) 1) x.enc.length = true := by
  unfold needB at h
  rw [Bool.and_eq_true, decide_eq_true_eq] at h
  obtain ⟨a, b, c, d, e, f⟩ := rightL_true.1 h.2
  exact ⟨h.1, ⟨a, b, by omega, e, f⟩, h.2⟩
theorem fits_need {x : It} (h : needB x = true) : fitsR x x.depth (max (x.lkey : Int) 1) x.enc.length = 0 := fitsR_zero.2 ⟨(need_true h).2.2, (need_true h).1, by omega, by omega, by omega⟩
theorem fits_d {x : It} : fitsR x ((x.depth : Int) - 1) (max (x.lkey : Int) 1) x.enc.length ≠ 0 := fun e => by have := (fitsR_zero.1 e).2.2.2.1; omega
theorem fits_k {x : It} : fitsR x x.depth (max (x.lkey : Int) 1 - 1) x.enc.length ≠ 0 := fun e => by
  have h1 := (fitsR_zero.1 e).2.2.2.2
  have h2 := (rightL_true.1 (fitsR_zero.1 e).1).2.2.1
  omega
theorem fits_s {x : It} : fitsR x x.depth (max (x.lkey : Int) 1) ((x.enc.length : Int) - 1) ≠ 0 := fun e => by have := (fitsR_zero.1 e).2.2.1; omega
theorem fits_l {x : It} (h : needB x = true) {d k s : Int} (hr : rightL d k s = true) : fitsR x d k s = 0 ↔ (x.depth : Int) ≤ d ∧ max (x.lkey : Int) 1 ≤ k ∧ (x.enc.length : Int) ≤ s := by
  rw [fitsR_zero]
  have := rightL_true.1 hr
  exact ⟨fun e => ⟨e.2.2.2.1, by have := e.2.2.2.2; omega, e.2.2.1⟩, fun e => ⟨hr, (need_true h).1, e.2.2, e.1, by omega⟩⟩

/-- The slots of the three copies. -/
def kThree : List Bool := [false, false, false, false, false, false, false, true, true, true, false, false, false, false, false, false, false, false, false, false, false, false, false, false, false, false, false, false, false, false, false, true, true, true]
/-- Three copies, each turned in one of its cells. -/
theorem dec3 {w2 W : World} {t : TypeId} {a b c u v x : Value} {g7 g8 g9 gN : Nat} (h7 : Blk W g7 t #[a, b, c]) (h8 : Blk W g8 t #[a, b, c]) (h9 : Blk W g9 t #[a, b, c]) (hN : Blk W gN t #[a, b, c]) (n1 : g7 ≠ g8) (n2 : g7 ≠ g9) (n3 : g8 ≠ g9) (m7 : gN ≠ g7) (m8 : gN ≠ g8) (m9 : gN ≠ g9)
    (hb : Below w2.heap.size w2 W) (k7 : w2.heap.size ≤ g7) (k8 : w2.heap.size ≤ g8) (k9 : w2.heap.size ≤ g9) :
    ∃ W', ((W.setCell ⟨g7, 0, none⟩ u).setCell ⟨g8, 1, none⟩ v).setCell ⟨g9, 2, none⟩ x = W' ∧ Blk W' g7 t #[u, b, c] ∧ Blk W' g8 t #[a, v, c] ∧ Blk W' g9 t #[a, b, x] ∧ Blk W' gN t #[a, b, c] ∧ Below w2.heap.size w2 W' := by
  refine ⟨_, rfl, ((h7.put 0 u).far (p := ⟨g8, 1, none⟩) n1 _).far (p := ⟨g9, 2, none⟩) n2 _, ((h8.far (p := ⟨g7, 0, none⟩) (Ne.symm n1) _).put 1 v).far (p := ⟨g9, 2, none⟩) n3 _, ((h9.far (p := ⟨g7, 0, none⟩) (Ne.symm n2) _).far (p := ⟨g8, 1, none⟩) (Ne.symm n3) _).put 2 x, ((hN.far (p := ⟨g7, 0, none⟩) m7 _).far (p := ⟨g8, 1, none⟩) m8 _).far (p := ⟨g9, 2, none⟩) m9 _, ?_⟩
  exact ((hb.setCell (p := ⟨g7, 0, none⟩) k7 _).setCell (p := ⟨g8, 1, none⟩) k8 _).setCell (p := ⟨g9, 2, none⟩) k9 _
theorem three {w2 w6 : World} {t : TypeId} {cs : Array Value} {gN : Nat} (hN : Blk w6 gN t cs) (hb : Below w2.heap.size w2 w6) :
    ∃ W, (((w6.alloc (.cells cs t)).alloc (.cells cs t)).alloc (.cells cs t)).drew = W ∧ Blk W w6.heap.size t cs ∧ Blk W (w6.heap.size + 1) t cs ∧ Blk W (w6.heap.size + 1 + 1) t cs ∧ Blk W gN t cs ∧ Below w2.heap.size w2 W := by
  have s1 : (w6.alloc (.cells cs t)).heap.size = w6.heap.size + 1 := by simp
  have s2 : ((w6.alloc (.cells cs t)).alloc (.cells cs t)).heap.size = w6.heap.size + 1 + 1 := by simp
  have b1 := Blk.fresh w6 t cs
  have b2 := Blk.fresh (w6.alloc (.cells cs t)) t cs
  have b3 := Blk.fresh ((w6.alloc (.cells cs t)).alloc (.cells cs t)) t cs
  rw [s1] at b2
  rw [s2] at b3
  exact ⟨_, rfl, ((b1.alloc _).alloc _).drew, (b2.alloc _).drew, b3.drew, (((hN.alloc _).alloc _).alloc _).drew, below_drawn (((hb.alloc hb.size _).alloc (by rw [s1]; have := hb.size; omega) _).alloc (by rw [s2]; have := hb.size; omega) _)⟩

set_option maxHeartbeats 4000000 in
set_option maxRecDepth 100000 in
theorem walk (x : It) (A : Option Addr) (cap : Nat) (d k s : Int) (w : World) (hx : okI 1048576 x) (h : AtV w x A cap) :
    Calls Try.prog 3 #[vI x A cap, vL d k s] w fun e w' => e = .returned (.bool true) ∧ Below w.heap.size w w' := by
  obtain ⟨w2, hw2, b1, b2, S⟩ : ∃ w2, (w.alloc (.cells #[.int .i64 x.k, .int .u64 x.n, .string x.s, .slice A x.l.length cap] 25)).alloc (.cells #[.int .i64 d, .int .i64 k, .int .i64 s] 27) = w2 ∧ Blk w2 w.heap.size 25 #[.int .i64 x.k, .int .u64 x.n, .string x.s, .slice A x.l.length cap] ∧ Blk w2 (w.heap.size + 1) 27 #[.int .i64 d, .int .i64 k, .int .i64 s] ∧ Below w.heap.size w w2 :=
    ⟨_, rfl, (Blk.fresh w _ _).alloc _, by have := Blk.fresh (w.alloc (.cells #[.int .i64 x.k, .int .u64 x.n, .string x.s, .slice A x.l.length cap] 25)) 27 #[.int .i64 d, .int .i64 k, .int .i64 s]; rwa [World.size_alloc] at this, (below_alloc w _).alloc (by simp) _⟩
  have H := h.toB
  have hcount := hx.1
  have HA := Lib.hid (fun W => lim_awake W)
  obtain ⟨g, hg⟩ : ∃ r, greatB x = r := ⟨_, rfl⟩
  have hG := fun W (hW : Below w.heap.size w W) => ref_Great x A cap w.heap.size W (by omega) hW.size (H.keep hW)
  rw [hg] at hG
  have HG := Lib.hid hG
  have hcell : ∀ W, Below w2.heap.size w2 W → (W.cell? ⟨w.heap.size, 0, none⟩ = some (.int .i64 x.k) ∧ W.cell? ⟨w.heap.size, 1, none⟩ = some (.int .u64 x.n) ∧ W.cell? ⟨w.heap.size, 2, none⟩ = some (.string x.s) ∧ W.cell? ⟨w.heap.size, 3, none⟩ = some (.slice A x.l.length cap)) ∧ W.cell? ⟨w.heap.size + 1, 0, none⟩ = some (.int .i64 d) ∧ W.cell? ⟨w.heap.size + 1, 1, none⟩ = some (.int .i64 k) ∧ W.cell? ⟨w.heap.size + 1, 2, none⟩ = some (.int .i64 s) := fun W hb => by
    obtain ⟨r0, r1, r2, r3, -⟩ := iblk (b1.on hb)
    exact ⟨⟨r0, r1, r2, r3⟩, lblk (b2.on hb)⟩
  have hup : ∀ W, Below w2.heap.size w2 W → Below w.heap.size w W := fun W hW => S.trans (hW.mono S.size)
  have HCELL := Lib.hid hcell
  have HUP := Lib.hid hup
  have HZ2 := Lib.hid (show w2.heap.size = w.heap.size + 2 by rw [← hw2]; simp)
  cases g with
  | true =>
    clear hcell hup S b1 b2 h H hx hcount hg hG
    simp only [vI, vL] at *
    go_enter Try.func3, Try.ntmps3
    go_wp2_with (first
        | (go_at_call 5; refine (HA.out _).mono ?_; rintro e w3 ⟨rfl, hb3⟩; obtain ⟨⟨a0, a1, a2, a3⟩, -⟩ := HCELL.out w3 hb3; have HB3 := Lib.hid hb3; clear hb3)
        | (go_at_call 6; refine (HG.out _ (HUP.out _ HB3.out)).mono ?_; rintro e w4 ⟨rfl, hb4⟩; have HB4 := Lib.hid (HB3.out.trans (hb4.mono HB3.out.size)); clear hb4))
    go_ret
    exact ⟨rfl, HUP.out _ HB4.out⟩
  | false =>
  have hbk := Nat.le_trans (great_bulk hg) (by decide : 1000000 ≤ 1099511627776)
  have hN := fun W (hW : Below w.heap.size w W) => limit_Needed x A cap w.heap.size W hx hbk hW.size (H.keep hW)
  have hF := fun (d k s : Int) W (hW : Below w.heap.size w W) => limit_Fits x A cap w.heap.size d k s W hx hbk hW.size (H.keep hW)
  have hLC := fun W => limit_Check d k s W
  obtain ⟨F, hF0⟩ : ∃ F, fitsR x = F := ⟨_, rfl⟩
  have q1 := need_false hx
  have q2 := fun (hh : needB x = true) => (need_true hh).2.1
  have q3 := fun (hh : needB x = true) => fits_need hh
  have q4 := @fits_d x
  have q5 := @fits_k x
  have q6 := @fits_s x
  have q7 := fun (hh : needB x = true) => @fits_l x hh d k s
  rw [hF0] at q1 q3 q4 q5 q6 q7 hF
  unfold needR at hN
  unfold rightR at hLC
  obtain ⟨nb, hnb⟩ : ∃ b, needB x = b := ⟨_, rfl⟩
  rw [hnb] at q1 q2 q3 q7 hN
  obtain ⟨D, hD⟩ : ∃ D : Int, (x.depth : Int) = D := ⟨_, rfl⟩
  obtain ⟨M, hM⟩ : ∃ M : Int, max (x.lkey : Int) 1 = M := ⟨_, rfl⟩
  obtain ⟨Z, hZ⟩ : ∃ Z : Int, (x.enc.length : Int) = Z := ⟨_, rfl⟩
  have q2' : nb = true → (1 ≤ D ∧ D ≤ 64 ∧ 1 ≤ M ∧ M ≤ 1024 ∧ 1 ≤ Z ∧ Z ≤ 2305843009213693951) := fun e => by have := q2 e; omega
  rw [hD, hM, hZ] at q3 q4 q5 q6 q7 hN
  clear hcell hup S b1 b2 h H hx hcount hg hG hbk hF0 hnb hD hM hZ q2
  simp only [vI, vL] at *
  have HN := Lib.hid hN
  have HF := Lib.hid hF
  have HLC := Lib.hid hLC
  clear hN hF hLC
  cases nb with
  | false =>
    have q1' := q1 rfl
    clear q1 q3 q4 q5 q6 q7 q2'
    obtain ⟨f1, hf1⟩ : ∃ f, F 64 1024 1099511627776 = f := ⟨_, rfl⟩
    have HF1 := Lib.hid (fun W hW => HF.out 64 1024 1099511627776 W hW)
    rw [hf1] at HF1 q1'
    clear HF hf1 HLC
    have q1b : (f1 != 0) = true := by simp [q1']
    go_enter Try.func3, Try.ntmps3
    go_wp2_with (first
        | (go_at_call 5; refine (HA.out _).mono ?_; rintro e w3 ⟨rfl, hb3⟩; obtain ⟨⟨a0, a1, a2, a3⟩, -⟩ := HCELL.out w3 hb3; have HB3 := Lib.hid hb3; clear hb3)
        | (go_at_call 6; refine (HG.out _ (HUP.out _ HB3.out)).mono ?_; rintro e w4 ⟨rfl, hb4⟩; have HB4 := Lib.hid (HB3.out.trans (hb4.mono HB3.out.size)); obtain ⟨⟨b0, b1, b2, b3⟩, -⟩ := HCELL.out w4 HB4.out; clear hb4)
        | (go_at_call 7; refine (HN.out _ (HUP.out _ HB4.out)).mono ?_; rintro e w5 ⟨rfl, hb5⟩; have HB5 := Lib.hid (HB4.out.trans (hb5.mono HB4.out.size)); have HB6 := Lib.hid (HB5.out.alloc HB5.out.size (.cells #[.int .i64 0, .int .i64 0, .int .i64 0] 27)); obtain ⟨⟨c0, c1, c2, c3⟩, -⟩ := HCELL.out _ HB6.out; clear hb5)
        | (go_at_call 8; refine (HF1.out _ (HUP.out _ HB6.out)).mono ?_; rintro e w7 ⟨rfl, hb7⟩; have HB7 := Lib.hid (HB6.out.trans (hb7.mono HB6.out.size)); clear hb7))
    go_ret
    exact ⟨rfl, HUP.out _ HB7.out⟩
  | true =>
    obtain ⟨r1, r2, r3, r4, r5, r6⟩ := q2' rfl
    have q3' := q3 rfl
    have q7' := q7 rfl
    clear q1 q2' q3 q7
    obtain ⟨f1, hf1⟩ : ∃ f, F (D - 1) M Z = f := ⟨_, rfl⟩
    obtain ⟨f2, hf2⟩ : ∃ f, F D (M - 1) Z = f := ⟨_, rfl⟩
    obtain ⟨f3, hf3⟩ : ∃ f, F D M (Z - 1) = f := ⟨_, rfl⟩
    obtain ⟨fl, hfl⟩ : ∃ f, F d k s = f := ⟨_, rfl⟩
    have HF0 := Lib.hid (fun W hW => HF.out D M Z W hW)
    have HF1 := Lib.hid (fun W hW => HF.out (D - 1) M Z W hW)
    have HF2 := Lib.hid (fun W hW => HF.out D (M - 1) Z W hW)
    have HF3 := Lib.hid (fun W hW => HF.out D M (Z - 1) W hW)
    have HFl := Lib.hid (fun W hW => HF.out d k s W hW)
    rw [q3'] at HF0
    rw [hf1] at HF1 q4
    rw [hf2] at HF2 q5
    rw [hf3] at HF3 q6
    rw [hfl] at HFl q7'
    obtain ⟨gl, hgl⟩ : ∃ g, rightL d k s = g := ⟨_, rfl⟩
    rw [hgl] at q7' HLC
    have QL := Lib.hid q7'
    have q4b : (f1 == 0) = false := beq_eq_false_iff_ne.2 q4
    have q5b : (f2 == 0) = false := beq_eq_false_iff_ne.2 q5
    have q6b : (f3 == 0) = false := beq_eq_false_iff_ne.2 q6
    clear HF q3' q4 q5 q6 q7' hf1 hf2 hf3 hfl hgl
    have e1 : IntKind.i64.wrap (D - 1) = D - 1 := by rw [IntWalk.i64_in _ (by omega)]
    have e2 : IntKind.i64.wrap (M - 1) = M - 1 := by rw [IntWalk.i64_in _ (by omega)]
    have e3 : IntKind.i64.wrap (Z - 1) = Z - 1 := by rw [IntWalk.i64_in _ (by omega)]
    go_enter Try.func3, Try.ntmps3
    go_wp2_with (first
        | (go_at_call 5; refine (HA.out _).mono ?_; rintro e w3 ⟨rfl, hb3⟩; obtain ⟨⟨a0, a1, a2, a3⟩, -⟩ := HCELL.out w3 hb3; have HB3 := Lib.hid hb3; clear hb3)
        | (go_at_call 6; refine (HG.out _ (HUP.out _ HB3.out)).mono ?_; rintro e w4 ⟨rfl, hb4⟩; have HB4 := Lib.hid (HB3.out.trans (hb4.mono HB3.out.size)); obtain ⟨⟨b0, b1, b2, b3⟩, -⟩ := HCELL.out w4 HB4.out; clear hb4)
        | (go_at_call 7; refine (HN.out _ (HUP.out _ HB4.out)).mono ?_; rintro e w5 ⟨rfl, hb5⟩; have HB5 := Lib.hid (HB4.out.trans (hb5.mono HB4.out.size)); clear hb5))
    obtain ⟨w6, hw6, bN, L6⟩ := stored0 (t := 27) (.int .i64 D) (.int .i64 M) (.int .i64 Z) HB5.out
    rw [hw6]
    obtain ⟨n0, n1, n2⟩ := lblk bN
    have HBN := Lib.hid bN
    have HL6 := Lib.hid L6
    clear a0 a1 a2 a3 b0 b1 b2 b3 hw6 bN L6
    obtain ⟨gN, hgN⟩ : ∃ gN, w5.heap.size = gN := ⟨_, rfl⟩
    rw [hgN] at n0 n1 n2 HBN ⊢
    clear hgN HB5 HB4 HB3 HN HG HA
    have x1 := fun o1 => lblk (HBN.out.alloc o1)
    have x2 := fun o1 o2 => lblk ((HBN.out.alloc o1).alloc o2)
    have x3 := fun o1 o2 o3 => lblk (((HBN.out.alloc o1).alloc o2).alloc o3)
    have x10 := fun o1 => (x1 o1).1
    have x11 := fun o1 => (x1 o1).2.1
    have x12 := fun o1 => (x1 o1).2.2
    have x20 := fun o1 o2 => (x2 o1 o2).1
    have x21 := fun o1 o2 => (x2 o1 o2).2.1
    have x22 := fun o1 o2 => (x2 o1 o2).2.2
    have x30 := fun o1 o2 o3 => (x3 o1 o2 o3).1
    have x31 := fun o1 o2 o3 => (x3 o1 o2 o3).2.1
    have x32 := fun o1 o2 o3 => (x3 o1 o2 o3).2.2
    clear x1 x2 x3
    have hG := HL6.out.size
    have hNG := HBN.out.lt
    refine wp_cut_mask kThree (fun t W => t 31 = .agg #[.int .i64 D, .int .i64 M, .int .i64 Z] ∧ t 32 = .agg #[.int .i64 D, .int .i64 M, .int .i64 Z] ∧ t 33 = .agg #[.int .i64 D, .int .i64 M, .int .i64 Z] ∧ ∃ g7 g8 g9, t 7 = .pointer (some ⟨g7, 0, none⟩) ∧ t 8 = .pointer (some ⟨g8, 0, none⟩) ∧ t 9 = .pointer (some ⟨g9, 0, none⟩) ∧
      (Blk W g7 27 #[.int .i64 D, .int .i64 M, .int .i64 Z] ∧ Blk W g8 27 #[.int .i64 D, .int .i64 M, .int .i64 Z] ∧ Blk W g9 27 #[.int .i64 D, .int .i64 M, .int .i64 Z] ∧ Blk W gN 27 #[.int .i64 D, .int .i64 M, .int .i64 Z]) ∧ (g7 ≠ g8 ∧ g7 ≠ g9 ∧ g8 ≠ g9) ∧ (w6.heap.size ≤ g7 ∧ w6.heap.size ≤ g8 ∧ w6.heap.size ≤ g9) ∧ Below w2.heap.size w2 W) (fun K' HK' => ?_) ?_
    · go_region
      all_goals
        obtain ⟨W9, hW9, k1, k2, k3, kN, L9⟩ := three HBN.out HL6.out
        rw [hW9]
        refine HK'.out _ _ rfl ⟨rfl, rfl, rfl, _, _, _, rfl, rfl, rfl, ⟨?_, ?_, ?_, kN⟩, ⟨by omega, by omega, by omega⟩, ⟨by omega, by omega, by omega⟩, L9⟩
        all_goals (first | exact k1 | exact k2 | exact k3)
    · intro t W9 hR
      obtain ⟨e31, e32, e33, g7, g8, g9, e7, e8, e9, ⟨k7, k8, k9, kN⟩, ⟨n1, n2, n3⟩, ⟨m7, m8, m9⟩, L9⟩ := hR
      dsimp only [mask, kThree, Nat.reduceAdd]
      rw [e31, e32, e33, e7, e8, e9]
      clear e31 e32 e33 e7 e8 e9
      have hz2 := HZ2.out
      obtain ⟨W10, hW10, j7, j8, j9, jN, L10⟩ := dec3 (u := .int .i64 (D - 1)) (v := .int .i64 (M - 1)) (x := .int .i64 (Z - 1)) k7 k8 k9 kN n1 n2 n3 (by omega) (by omega) (by omega) L9 (by omega) (by omega) (by omega)
      obtain ⟨u10, u11, u12⟩ := lblk k7
      obtain ⟨u20, u21, u22⟩ := lblk k8
      obtain ⟨u30, u31, u32⟩ := lblk k9
      obtain v1 := k7.free 0
      obtain v2 := k8.free 1
      obtain v3 := k9.free 2
      have hc2 : ∀ W, Below W10.heap.size W10 W → ((W.cell? ⟨w.heap.size, 0, none⟩ = some (.int .i64 x.k) ∧ W.cell? ⟨w.heap.size, 1, none⟩ = some (.int .u64 x.n) ∧ W.cell? ⟨w.heap.size, 2, none⟩ = some (.string x.s) ∧ W.cell? ⟨w.heap.size, 3, none⟩ = some (.slice A x.l.length cap)) ∧ W.cell? ⟨w.heap.size + 1, 0, none⟩ = some (.int .i64 d) ∧ W.cell? ⟨w.heap.size + 1, 1, none⟩ = some (.int .i64 k) ∧ W.cell? ⟨w.heap.size + 1, 2, none⟩ = some (.int .i64 s)) ∧ _ ∧ _ ∧ _ ∧ _ := fun W hb => ⟨HCELL.out W (L10.trans (hb.mono L10.size)), lblk (j7.on hb), lblk (j8.on hb), lblk (j9.on hb), lblk (jN.on hb)⟩
      have HC2 := Lib.hid hc2
      have HL10 := Lib.hid L10
      obtain ⟨⟨⟨y0, y1, y2, y3⟩, y4, y5, y6⟩, ⟨y7, y8, y9⟩, ⟨y10, y11, y12⟩, ⟨y13, y14, y15⟩, ⟨y16, y17, y18⟩⟩ := HC2.out _ (Below.refl _ _)
      clear hc2 k7 k8 k9 kN L10 L9 j7 j8 j9 jN HBN HL6 hG hNG m7 m8 m9 hz2 x10 x11 x12 x20 x21 x22 x30 x31 x32
      have R := Lib.hid (Below.refl W10.heap.size W10)
      go_wp2_with fail
      refine (HF0.out _ (HUP.out _ HL10.out)).mono ?_
      rintro e w11 ⟨rfl, hb⟩
      have HB11 := Lib.hid (R.out.trans (hb.mono R.out.size))
      clear y0 y1 y2 y3 y4 y5 y6 y7 y8 y9 y10 y11 y12 y13 y14 y15 y16 y17 y18
      obtain ⟨⟨⟨y0, y1, y2, y3⟩, y4, y5, y6⟩, ⟨y7, y8, y9⟩, ⟨y10, y11, y12⟩, ⟨y13, y14, y15⟩, ⟨y16, y17, y18⟩⟩ := HC2.out _ HB11.out
      clear hb
      go_wp2_with fail
      refine (HF1.out _ (HUP.out _ (HL10.out.trans (HB11.out.mono HL10.out.size)))).mono ?_
      rintro e w12 ⟨rfl, hb⟩
      have HB12 := Lib.hid (HB11.out.trans (hb.mono HB11.out.size))
      clear y0 y1 y2 y3 y4 y5 y6 y7 y8 y9 y10 y11 y12 y13 y14 y15 y16 y17 y18
      obtain ⟨⟨⟨y0, y1, y2, y3⟩, y4, y5, y6⟩, ⟨y7, y8, y9⟩, ⟨y10, y11, y12⟩, ⟨y13, y14, y15⟩, ⟨y16, y17, y18⟩⟩ := HC2.out _ HB12.out
      clear hb
      go_wp2_with fail
      refine (HF2.out _ (HUP.out _ (HL10.out.trans (HB12.out.mono HL10.out.size)))).mono ?_
      rintro e w13 ⟨rfl, hb⟩
      have HB13 := Lib.hid (HB12.out.trans (hb.mono HB12.out.size))
      clear y0 y1 y2 y3 y4 y5 y6 y7 y8 y9 y10 y11 y12 y13 y14 y15 y16 y17 y18
      obtain ⟨⟨⟨y0, y1, y2, y3⟩, y4, y5, y6⟩, ⟨y7, y8, y9⟩, ⟨y10, y11, y12⟩, ⟨y13, y14, y15⟩, ⟨y16, y17, y18⟩⟩ := HC2.out _ HB13.out
      clear hb
      go_wp2_with fail
      refine (HF3.out _ (HUP.out _ (HL10.out.trans (HB13.out.mono HL10.out.size)))).mono ?_
      rintro e w14 ⟨rfl, hb⟩
      have HB14 := Lib.hid (HB13.out.trans (hb.mono HB13.out.size))
      clear y0 y1 y2 y3 y4 y5 y6 y7 y8 y9 y10 y11 y12 y13 y14 y15 y16 y17 y18
      obtain ⟨⟨⟨y0, y1, y2, y3⟩, y4, y5, y6⟩, ⟨y7, y8, y9⟩, ⟨y10, y11, y12⟩, ⟨y13, y14, y15⟩, ⟨y16, y17, y18⟩⟩ := HC2.out _ HB14.out
      clear hb
      by_cases h1 : D ≤ d
      · by_cases h2 : M ≤ k
        · by_cases h3 : Z ≤ s
          · cases gl with
            | true =>
              have hfl : fl = 0 := (QL.out rfl).2 ⟨h1, h2, h3⟩
              subst hfl
              clear QL
              go_wp2_with fail
              refine (HLC.out _).mono ?_
              rintro e w15 ⟨rfl, hb⟩
              have HB15 := Lib.hid (HB14.out.trans (hb.mono HB14.out.size))
              obtain ⟨⟨⟨y0, y1, y2, y3⟩, y4, y5, y6⟩, ⟨y7, y8, y9⟩, ⟨y10, y11, y12⟩, ⟨y13, y14, y15⟩, ⟨y16, y17, y18⟩⟩ := HC2.out _ HB15.out
              clear hb
              go_wp2_with fail
              refine (HFl.out _ (HUP.out _ (HL10.out.trans (HB15.out.mono HL10.out.size)))).mono ?_
              rintro e w16 ⟨rfl, hb⟩
              have HB16 := Lib.hid (HB15.out.trans (hb.mono HB15.out.size))
              clear hb
              go_wp2_with fail
              go_ret
              first
              | exact ⟨rfl, HUP.out _ (HL10.out.trans (HB16.out.mono HL10.out.size))⟩
              | exact ⟨by rw [decide_eq_false (by omega : ¬ Z ≤ s)]; rfl, HUP.out _ (HL10.out.trans (HB16.out.mono HL10.out.size))⟩
            | false =>
              clear QL
              go_wp2_with fail
              refine (HLC.out _).mono ?_
              rintro e w15 ⟨rfl, hb⟩
              have HB15 := Lib.hid (HB14.out.trans (hb.mono HB14.out.size))
              clear hb
              go_wp2_with fail
              go_ret
              exact ⟨rfl, HUP.out _ (HL10.out.trans (HB15.out.mono HL10.out.size))⟩
          · cases gl with
            | true =>
              have hfl : (fl == 0) = false := by rw [beq_eq_false_iff_ne]; intro e; have := (QL.out rfl).1 e; omega
              clear QL
              go_wp2_with fail
              refine (HLC.out _).mono ?_
              rintro e w15 ⟨rfl, hb⟩
              have HB15 := Lib.hid (HB14.out.trans (hb.mono HB14.out.size))
              obtain ⟨⟨⟨y0, y1, y2, y3⟩, y4, y5, y6⟩, ⟨y7, y8, y9⟩, ⟨y10, y11, y12⟩, ⟨y13, y14, y15⟩, ⟨y16, y17, y18⟩⟩ := HC2.out _ HB15.out
              clear hb
              go_wp2_with fail
              refine (HFl.out _ (HUP.out _ (HL10.out.trans (HB15.out.mono HL10.out.size)))).mono ?_
              rintro e w16 ⟨rfl, hb⟩
              have HB16 := Lib.hid (HB15.out.trans (hb.mono HB15.out.size))
              clear hb
              go_wp2_with fail
              go_ret
              first
              | exact ⟨rfl, HUP.out _ (HL10.out.trans (HB16.out.mono HL10.out.size))⟩
              | exact ⟨by rw [decide_eq_false (by omega : ¬ Z ≤ s)]; rfl, HUP.out _ (HL10.out.trans (HB16.out.mono HL10.out.size))⟩
            | false =>
              clear QL
              go_wp2_with fail
              refine (HLC.out _).mono ?_
              rintro e w15 ⟨rfl, hb⟩
              have HB15 := Lib.hid (HB14.out.trans (hb.mono HB14.out.size))
              clear hb
              go_wp2_with fail
              go_ret
              exact ⟨rfl, HUP.out _ (HL10.out.trans (HB15.out.mono HL10.out.size))⟩
        · cases gl with
          | true =>
            have hfl : (fl == 0) = false := by rw [beq_eq_false_iff_ne]; intro e; have := (QL.out rfl).1 e; omega
            clear QL
            go_wp2_with fail
            refine (HLC.out _).mono ?_
            rintro e w15 ⟨rfl, hb⟩
            have HB15 := Lib.hid (HB14.out.trans (hb.mono HB14.out.size))
            obtain ⟨⟨⟨y0, y1, y2, y3⟩, y4, y5, y6⟩, ⟨y7, y8, y9⟩, ⟨y10, y11, y12⟩, ⟨y13, y14, y15⟩, ⟨y16, y17, y18⟩⟩ := HC2.out _ HB15.out
            clear hb
            go_wp2_with fail
            refine (HFl.out _ (HUP.out _ (HL10.out.trans (HB15.out.mono HL10.out.size)))).mono ?_
            rintro e w16 ⟨rfl, hb⟩
            have HB16 := Lib.hid (HB15.out.trans (hb.mono HB15.out.size))
            clear hb
            go_wp2_with fail
            go_ret
            first
            | exact ⟨rfl, HUP.out _ (HL10.out.trans (HB16.out.mono HL10.out.size))⟩
            | exact ⟨by rw [decide_eq_false (by omega : ¬ Z ≤ s)]; rfl, HUP.out _ (HL10.out.trans (HB16.out.mono HL10.out.size))⟩
          | false =>
            clear QL
            go_wp2_with fail
            refine (HLC.out _).mono ?_
            rintro e w15 ⟨rfl, hb⟩
            have HB15 := Lib.hid (HB14.out.trans (hb.mono HB14.out.size))
            clear hb
            go_wp2_with fail
            go_ret
            exact ⟨rfl, HUP.out _ (HL10.out.trans (HB15.out.mono HL10.out.size))⟩
      · cases gl with
        | true =>
          have hfl : (fl == 0) = false := by rw [beq_eq_false_iff_ne]; intro e; have := (QL.out rfl).1 e; omega
          clear QL
          go_wp2_with fail
          refine (HLC.out _).mono ?_
          rintro e w15 ⟨rfl, hb⟩
          have HB15 := Lib.hid (HB14.out.trans (hb.mono HB14.out.size))
          obtain ⟨⟨⟨y0, y1, y2, y3⟩, y4, y5, y6⟩, ⟨y7, y8, y9⟩, ⟨y10, y11, y12⟩, ⟨y13, y14, y15⟩, ⟨y16, y17, y18⟩⟩ := HC2.out _ HB15.out
          clear hb
          go_wp2_with fail
          refine (HFl.out _ (HUP.out _ (HL10.out.trans (HB15.out.mono HL10.out.size)))).mono ?_
          rintro e w16 ⟨rfl, hb⟩
          have HB16 := Lib.hid (HB15.out.trans (hb.mono HB15.out.size))
          clear hb
          go_wp2_with fail
          go_ret
          first
          | exact ⟨rfl, HUP.out _ (HL10.out.trans (HB16.out.mono HL10.out.size))⟩
          | exact ⟨by rw [decide_eq_false (by omega : ¬ Z ≤ s)]; rfl, HUP.out _ (HL10.out.trans (HB16.out.mono HL10.out.size))⟩
        | false =>
          clear QL
          go_wp2_with fail
          refine (HLC.out _).mono ?_
          rintro e w15 ⟨rfl, hb⟩
          have HB15 := Lib.hid (HB14.out.trans (hb.mono HB14.out.size))
          clear hb
          go_wp2_with fail
          go_ret
          exact ⟨rfl, HUP.out _ (HL10.out.trans (HB15.out.mono HL10.out.size))⟩

theorem own : ownKnob Try.prog.godebug = none := by kernel_rfl
theorem laidOut : laidOutB Try.prog = true := by kernel_rfl
set_option maxRecDepth 100000 in
theorem contract (H : Type) (enc : TypeId × Value → H) (W : World) (base : Nat) (args : Array Value) (ds gs : List (DataW H)) (before : List MemPlace) (hk : Rows.uptoSmall H (ds ++ gs) = true)
    (hval : ∀ (j : Nat) t v, Try.f3.params[j]? = some t → args[j]? = some v → Value.okWide Try.prog W .any base t v)
    (hW : DataW.Whole enc Try.prog Try.f3.params.toList Rows.limitNeededSpec.vars false W args.toList ds gs before) :
    Calls Try.prog 3 args W fun e W' => ∃ v, e = .returned v ∧ Rows.limitNeededSpec.post enc Try.prog Try.f3 false true false false W args v W' := by
  have hW' := hW
  obtain ⟨p, q, hA0, hV, hpq, _, _⟩ := hW
  have hA : DataW.TrodAll enc Try.prog W 0 (fun _ => true) true Try.f3.params.toList args.toList ds p := hA0
  rw [Try.params3] at hA hval
  obtain ⟨v0, vs0, d0, ds0, p0, q0, hargs, rfl, rfl, h0, r0⟩ := trodAll_cons hA
  obtain ⟨v1, vs1, d1, ds1, p1, q1, rfl, rfl, rfl, h1, r1⟩ := trodAll_cons r0
  obtain ⟨rfl, rfl, rfl⟩ := trodAll_nil r1
  obtain rfl : args = #[v0, v1] := by cases args; simp_all
  obtain ⟨rfl, rfl⟩ := trodVars_none hV
  have hs : Rows.uptoBulk d0 + (Rows.uptoBulk d1 + 0) ≤ 1048576 := of_decide_eq_true hk
  obtain ⟨x0, A0, c0, rfl, hx0, ho0⟩ := open_item (hval 0 25 v0 rfl rfl) h0
  obtain ⟨a1, b1, e1, rfl⟩ := open_limits (hval 1 27 v1 rfl rfl) h1
  refine (walk x0 A0 c0 a1 b1 e1 W (okI_mono ho0 (by omega)) hx0).mono fun e W' ⟨he, hbl⟩ => ?_
  subst he
  exact ⟨_, rfl, law_post laidOut (by kernel_rfl) rfl (by kernel_rfl) Try.underlying4 rfl rfl rfl hW' hbl⟩
set_option maxRecDepth 100000 in
theorem lifted (os : Os) (started : os.Started) (H : Type) (enc : TypeId × Value → H) (F : Stop.Interp) :
    ReturnsInHanded {} Try.checked os 3 .any ((Rows.OpenSpec.upto Rows.limitNeededSpec).pre6 enc Try.prog Try.f3 Rows.limitNeededUptoRow.domain false) (((Rows.OpenSpec.upto Rows.limitNeededSpec).at F).post enc Try.prog Try.f3 false true false false) := by
  refine returnsInHanded_of_cond (C := Try.checked) (s := Rows.OpenSpec.upto Rows.limitNeededSpec) (k := Rows.uptoSmall) rfl own started (by kernel_rfl) Try.func3
    (OpenSpec.witness (enc := enc) (C := Try.checked) (s := Rows.OpenSpec.upto Rows.limitNeededSpec) (k := Rows.uptoSmall) rfl false ⟨#[], #[.agg #[.int .i64 0, .int .u64 0, .string ⟨#[]⟩, .slice none 0 0], .agg #[.int .i64 0, .int .i64 0, .int .i64 0]], []⟩ 8 (by kernel_rfl) (by kernel_rfl) (by kernel_rfl)
      (x := ([.agg [.lit (.int .i64 0), .lit (.int .u64 0), .lit (.string []), .nil], .agg [.lit (.int .i64 0), .lit (.int .i64 0), .lit (.int .i64 0)]], [], [])) (by kernel_rfl) rfl (by kernel_rfl)) ?_
  intro W base args ds gs before hval hW _ hk _
  exact contract H enc W base args ds gs before hk hval hW
theorem over : Rows.limitNeededUptoRow.holds Try.pinned (Rows.OpenSpec.upto Rows.limitNeededSpec) :=
  OpenClaim.holds_of_cond 3 Try.f3 rfl rfl rfl rfl rfl rfl rfl ⟨rfl, rfl, rfl, rfl, rfl⟩ rfl rfl rfl rfl rfl (by kernel_rfl) Try.func3 (by kernel_rfl)
    (of_decide_eq_true (by kernel_rfl)) (by unfold Func.isWrapper; first | (rw [if_pos (by decide +kernel)]; kernel_rfl) | (rw [if_neg (by decide +kernel)]; exact ⟨rfl, rfl⟩))
    (fun os started H enc _ F => lifted os started H enc F)

/-- The statement. -/
theorem proved : Rows.LimitNeededUptoSaid := over
#print axioms proved
end Go.Proofs.Ytgcgidoikpbfpaa.limitNeeded
