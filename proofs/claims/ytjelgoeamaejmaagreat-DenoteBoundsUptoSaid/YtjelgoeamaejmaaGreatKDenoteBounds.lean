/-
  PROVED: the law DenoteBounds returns true for every item of at most 1048576 in bulk and every four numbers of a byte (Rows.DenoteBoundsUptoSaid). Conditions: none.
-/
import Derived.Test.YtjelgoeamaejmaaGreatKXAV
import Derived.Test.YtjelgoeamaejmaaGreatKAW
import Derived.Test.YtjelgoeamaejmaaGreatRows
import Derived.WalkKit
import Derived.ProofKit
import Derived.OpenShut
import Derived.JoinedCond
import Derived.Lib.QuietBelow
namespace Go.Proofs.YtjelgoeamaejmaaGreat.denoteBounds
open Go.ChangeShapes Go.WideShapes Go.ChangeAt Go.RowKit Go.Sort

theorem okI_mono {N N' : Nat} {t : It} (h : okI N t) (hN : N ≤ N') : okI N' t := ⟨Nat.le_trans h.1 hN, fun d p hp => ⟨(h.2 d p hp).1, (h.2 d p hp).2.1, Nat.le_trans (h.2 d p hp).2.2 hN⟩⟩
set_option maxRecDepth 100000 in
set_option maxHeartbeats 4000000 in
theorem walk1 (x : It) (A : Option Addr) (cap : Nat) (a1 a2 a3 a4 : Int) (w : World) (hx : okI 1048576 x) (h : AtV w x A cap) (hg : greatB x = true) :
    Calls Tryz.prog 4 #[vI x A cap, .int .u8 a1, .int .u8 a2, .int .u8 a3, .int .u8 a4] w fun e w' => e = .returned (.bool true) ∧ Below w.heap.size w w' := by
  have H := h.toB
  have hcount := hx.1
  have HA := Lib.hid (fun W => den_awake W)
  have HG := Lib.hid (fun W (hW : Below w.heap.size w W) => ref_Great x A cap w.heap.size W (by omega) hW.size (H.keep hW))
  have HC := Lib.hid (fun W (hW : Below w.heap.size w W) => ref_CheckW x A cap w.heap.size W hx hW.size (H.keep hW))
  obtain ⟨w1, hw1, bx, S⟩ := iblk1 w 28 #[.int .i64 x.k, .int .u64 x.n, .string x.s, .slice A x.l.length cap]
  obtain ⟨p0, p1, p2, p3, -⟩ := iblk bx
  have HS := Lib.hid S
  have HBX := Lib.hid bx
  rw [hg] at HG
  clear h H hx hcount S bx
  simp only [vI] at *
  go_enter Tryz.func4, Tryz.ntmps4
  go_wp2_with (first
    | (go_at_call 6; refine (HA.out _).mono ?_; rintro e w2 ⟨rfl, hb⟩; have HB2 := Lib.hid (HS.out.trans (hb.mono HS.out.size)); have HBX2 := Lib.hid (HBX.out.on hb); obtain ⟨q0, q1, q2, q3, -⟩ := iblk HBX2.out; clear hb)
    | (go_at_call 15; refine (HG.out _ HB2.out).mono ?_; rintro e w3 ⟨rfl, hb⟩; have HB3 := Lib.hid (HB2.out.trans (hb.mono HB2.out.size)); have HBX3 := Lib.hid (HBX2.out.on hb); obtain ⟨t0, t1, t2, t3, -⟩ := iblk HBX3.out; clear hb)
    | (go_at_call 12; refine (HC.out _ HB3.out).mono ?_; rintro e w4 ⟨rfl, hb⟩; have HB4 := Lib.hid (HB3.out.trans (hb.mono HB3.out.size)); have HBX4 := Lib.hid (HBX3.out.on hb); obtain ⟨s0, s1, s2, s3, -⟩ := iblk HBX4.out; clear hb)
    | fail)
  go_ret
  exact ⟨rfl, HB3.out⟩
set_option maxRecDepth 100000 in
set_option maxHeartbeats 4000000 in
theorem walk2 (x : It) (A : Option Addr) (cap : Nat) (a1 a2 a3 a4 : Int) (w : World) (hx : okI 1048576 x) (h : AtV w x A cap) (hg : greatB x = false) (hc : checkR wrongI x ≠ 0) :
    Calls Tryz.prog 4 #[vI x A cap, .int .u8 a1, .int .u8 a2, .int .u8 a3, .int .u8 a4] w fun e w' => e = .returned (.bool true) ∧ Below w.heap.size w w' := by
  have H := h.toB
  have hcount := hx.1
  have HA := Lib.hid (fun W => den_awake W)
  have HG := Lib.hid (fun W (hW : Below w.heap.size w W) => ref_Great x A cap w.heap.size W (by omega) hW.size (H.keep hW))
  have HC := Lib.hid (fun W (hW : Below w.heap.size w W) => ref_CheckW x A cap w.heap.size W hx hW.size (H.keep hW))
  obtain ⟨w1, hw1, bx, S⟩ := iblk1 w 28 #[.int .i64 x.k, .int .u64 x.n, .string x.s, .slice A x.l.length cap]
  obtain ⟨p0, p1, p2, p3, -⟩ := iblk bx
  have HS := Lib.hid S
  have HBX := Lib.hid bx
  rw [hg] at HG
  have hne : (checkR wrongI x != 0) = true := by simpa using hc
  generalize checkR wrongI x = ck at *
  clear h H hx hcount S bx
  simp only [vI] at *
  go_enter Tryz.func4, Tryz.ntmps4
  go_wp2_with (first
    | (go_at_call 6; refine (HA.out _).mono ?_; rintro e w2 ⟨rfl, hb⟩; have HB2 := Lib.hid (HS.out.trans (hb.mono HS.out.size)); have HBX2 := Lib.hid (HBX.out.on hb); obtain ⟨q0, q1, q2, q3, -⟩ := iblk HBX2.out; clear hb)
    | (go_at_call 15; refine (HG.out _ HB2.out).mono ?_; rintro e w3 ⟨rfl, hb⟩; have HB3 := Lib.hid (HB2.out.trans (hb.mono HB2.out.size)); have HBX3 := Lib.hid (HBX2.out.on hb); obtain ⟨t0, t1, t2, t3, -⟩ := iblk HBX3.out; clear hb)
    | (go_at_call 12; refine (HC.out _ HB3.out).mono ?_; rintro e w4 ⟨rfl, hb⟩; have HB4 := Lib.hid (HB3.out.trans (hb.mono HB3.out.size)); have HBX4 := Lib.hid (HBX3.out.on hb); obtain ⟨s0, s1, s2, s3, -⟩ := iblk HBX4.out; clear hb)
    | fail)
  go_ret
  exact ⟨rfl, HB4.out⟩
set_option maxRecDepth 100000 in
set_option maxHeartbeats 4000000 in
theorem walk3 (x : It) (A : Option Addr) (cap : Nat) (a1 a2 a3 a4 : Int) (w : World) (hx : okI 1048576 x) (h : AtV w x A cap) (hg : greatB x = false) (hc : checkR wrongI x = 0) (b1 : 0 ≤ a1 ∧ a1 ≤ 255) (b2 : 0 ≤ a2 ∧ a2 ≤ 255) (b3 : 0 ≤ a3 ∧ a3 ≤ 255) (b4 : 0 ≤ a4 ∧ a4 ≤ 255) :
    Calls Tryz.prog 4 #[vI x A cap, .int .u8 a1, .int .u8 a2, .int .u8 a3, .int .u8 a4] w fun e w' => e = .returned (.bool true) ∧ Below w.heap.size w w' := by
  have H := h.toB
  have hcount := hx.1
  have HA := Lib.hid (fun W => den_awake W)
  have HG := Lib.hid (fun W (hW : Below w.heap.size w W) => ref_Great x A cap w.heap.size W (by omega) hW.size (H.keep hW))
  have HC := Lib.hid (fun W (hW : Below w.heap.size w W) => ref_CheckW x A cap w.heap.size W hx hW.size (H.keep hW))
  obtain ⟨w1, hw1, bx, S⟩ := iblk1 w 28 #[.int .i64 x.k, .int .u64 x.n, .string x.s, .slice A x.l.length cap]
  obtain ⟨p0, p1, p2, p3, -⟩ := iblk bx
  have HS := Lib.hid S
  have HBX := Lib.hid bx
  have HX := Lib.hid hx
  have HH := Lib.hid H
  have HCC := Lib.hid hc
  rw [hg] at HG
  rw [hc] at HC
  clear h H hx hcount S bx hc
  rcases (by omega : a1 % 3 = 0 ∨ a1 % 3 = 1 ∨ a1 % 3 = 2) with hm | hm | hm
  · simp only [vI] at *
    go_enter Tryz.func4, Tryz.ntmps4
    go_wp2_with (first
      | (go_at_call 6; refine (HA.out _).mono ?_; rintro e w2 ⟨rfl, hb⟩; have HB2 := Lib.hid (HS.out.trans (hb.mono HS.out.size)); have HBX2 := Lib.hid (HBX.out.on hb); obtain ⟨q0, q1, q2, q3, -⟩ := iblk HBX2.out; clear hb)
      | (go_at_call 15; refine (HG.out _ HB2.out).mono ?_; rintro e w3 ⟨rfl, hb⟩; have HB3 := Lib.hid (HB2.out.trans (hb.mono HB2.out.size)); have HBX3 := Lib.hid (HBX2.out.on hb); obtain ⟨t0, t1, t2, t3, -⟩ := iblk HBX3.out; clear hb)
      | (go_at_call 12; refine (HC.out _ HB3.out).mono ?_; rintro e w4 ⟨rfl, hb⟩; have HB4 := Lib.hid (HB3.out.trans (hb.mono HB3.out.size)); have HBX4 := Lib.hid (HBX3.out.on hb); obtain ⟨s0, s1, s2, s3, -⟩ := iblk HBX4.out; clear hb)
      | fail)
    obtain ⟨w5, hw5, RX, BX5, S5⟩ := bd_at w4 1 a2 (a2 + a3) (max (a2 - a4) 0) (a2 + a3 + a4)
    unfold bdc at hw5
    rw [hw5]
    have HB5 := Lib.hid (HB4.out.trans (S5.mono HB4.out.size))
    have HBX5 := Lib.hid (HBX4.out.on S5)
    have HSX5 := Lib.hid BX5
    have HN := bd_all x A cap (w4.heap.size + 1 + 1) w5 (.inl rfl) (by omega) (by omega) (by omega) (by omega) (by omega) RX ((HH.out.keep HB5.out).more HB5.out.size) HX.out HCC.out
    generalize loneR 1 a2 (a2 + a3) x = r1 at *
    generalize loneR 1 (max (a2 - a4) 0) (a2 + a3 + a4) x = r2 at *
    obtain ⟨hn0, hn1, hn2, himp⟩ := HN
    simp only [vI] at hn0 hn1 hn2
    have HN0 := Lib.hid hn0
    have HN1 := Lib.hid hn1
    have HN2 := Lib.hid hn2
    clear hn0 hn1 hn2 RX BX5 S5 hw5 HX HH HCC HB2 HB3 HB4 HBX2 HBX3 HBX4 HA HG HC q0 q1 q2 q3 s0 s1 s2 s3 p0 p1 p2 p3 HS HBX hw1 hm
    obtain ⟨x0, x1, x2, x3, -⟩ := iblk HBX5.out
    have y0 := sblk HSX5.out
    have HS5 := Lib.hid HB5.out
    generalize w4.heap.size + 1 + 1 = gN at *
    clear HB5 HBX5 HSX5
    have l0 := cell_regrown x0
    have l1 := cell_regrown x1
    have l2 := cell_regrown x2
    have l3 := cell_regrown x3
    have l4 := cell_regrown y0
    have K0 := Lib.hid (fun dq os => Calls.regrown_of (HN0.out (grow (redrawn w5 dq) os) (below_regrown w5 dq os)))
    have K1 := Lib.hid (fun dq os => Calls.regrown_of (HN1.out (grow (redrawn w5 dq) os) (below_regrown w5 dq os)))
    have K2 := Lib.hid (fun dq os => Calls.regrown_of (HN2.out (grow (redrawn w5 dq) os) (below_regrown w5 dq os)))
    clear HN0 HN1 HN2
    rcases (by cases r1 <;> cases r2 <;> simp at himp ⊢ : (r1 = false ∧ r2 = false) ∨ (r1 = false ∧ r2 = true) ∨ (r1 = true ∧ r2 = true)) with ⟨rfl, rfl⟩ | ⟨rfl, rfl⟩ | ⟨rfl, rfl⟩
    all_goals
      simp only [Bool.or] at K0
      refine wp_region_quiet_below (by kernel_rfl) (by kernel_rfl) ?_
      repeat (quiet_step (first | (with_reducible exact K0.out _ _) | (with_reducible exact K1.out _ _) | (with_reducible exact K2.out _ _)))
      refine wpQuiet_nil ?_
      intro _ hw'
      obtain ⟨⟨dq, osq⟩, hw''⟩ := hw'
      subst hw''
      go_wp2_with fail
      go_ret
      exact ⟨rfl, HS5.out.trans ((below_regrown w5 dq osq).mono HS5.out.size)⟩
  · simp only [vI] at *
    go_enter Tryz.func4, Tryz.ntmps4
    go_wp2_with (first
      | (go_at_call 6; refine (HA.out _).mono ?_; rintro e w2 ⟨rfl, hb⟩; have HB2 := Lib.hid (HS.out.trans (hb.mono HS.out.size)); have HBX2 := Lib.hid (HBX.out.on hb); obtain ⟨q0, q1, q2, q3, -⟩ := iblk HBX2.out; clear hb)
      | (go_at_call 15; refine (HG.out _ HB2.out).mono ?_; rintro e w3 ⟨rfl, hb⟩; have HB3 := Lib.hid (HB2.out.trans (hb.mono HB2.out.size)); have HBX3 := Lib.hid (HBX2.out.on hb); obtain ⟨t0, t1, t2, t3, -⟩ := iblk HBX3.out; clear hb)
      | (go_at_call 12; refine (HC.out _ HB3.out).mono ?_; rintro e w4 ⟨rfl, hb⟩; have HB4 := Lib.hid (HB3.out.trans (hb.mono HB3.out.size)); have HBX4 := Lib.hid (HBX3.out.on hb); obtain ⟨s0, s1, s2, s3, -⟩ := iblk HBX4.out; clear hb)
      | fail)
    obtain ⟨w5, hw5, RX, BX5, S5⟩ := bd_at w4 2 a2 (a2 + a3) (max (a2 - a4) 0) (a2 + a3 + a4)
    unfold bdc at hw5
    rw [hw5]
    have HB5 := Lib.hid (HB4.out.trans (S5.mono HB4.out.size))
    have HBX5 := Lib.hid (HBX4.out.on S5)
    have HSX5 := Lib.hid BX5
    have HN := bd_all x A cap (w4.heap.size + 1 + 1) w5 (.inr (.inl rfl)) (by omega) (by omega) (by omega) (by omega) (by omega) RX ((HH.out.keep HB5.out).more HB5.out.size) HX.out HCC.out
    generalize loneR 2 a2 (a2 + a3) x = r1 at *
    generalize loneR 2 (max (a2 - a4) 0) (a2 + a3 + a4) x = r2 at *
    obtain ⟨hn0, hn1, hn2, himp⟩ := HN
    simp only [vI] at hn0 hn1 hn2
    have HN0 := Lib.hid hn0
    have HN1 := Lib.hid hn1
    have HN2 := Lib.hid hn2
    clear hn0 hn1 hn2 RX BX5 S5 hw5 HX HH HCC HB2 HB3 HB4 HBX2 HBX3 HBX4 HA HG HC q0 q1 q2 q3 s0 s1 s2 s3 p0 p1 p2 p3 HS HBX hw1 hm
    obtain ⟨x0, x1, x2, x3, -⟩ := iblk HBX5.out
    have y0 := sblk HSX5.out
    have HS5 := Lib.hid HB5.out
    generalize w4.heap.size + 1 + 1 = gN at *
    clear HB5 HBX5 HSX5
    have l0 := cell_regrown x0
    have l1 := cell_regrown x1
    have l2 := cell_regrown x2
    have l3 := cell_regrown x3
    have l4 := cell_regrown y0
    have K0 := Lib.hid (fun dq os => Calls.regrown_of (HN0.out (grow (redrawn w5 dq) os) (below_regrown w5 dq os)))
    have K1 := Lib.hid (fun dq os => Calls.regrown_of (HN1.out (grow (redrawn w5 dq) os) (below_regrown w5 dq os)))
    have K2 := Lib.hid (fun dq os => Calls.regrown_of (HN2.out (grow (redrawn w5 dq) os) (below_regrown w5 dq os)))
    clear HN0 HN1 HN2
    rcases (by cases r1 <;> cases r2 <;> simp at himp ⊢ : (r1 = false ∧ r2 = false) ∨ (r1 = false ∧ r2 = true) ∨ (r1 = true ∧ r2 = true)) with ⟨rfl, rfl⟩ | ⟨rfl, rfl⟩ | ⟨rfl, rfl⟩
    all_goals
      simp only [Bool.or] at K0
      refine wp_region_quiet_below (by kernel_rfl) (by kernel_rfl) ?_
      repeat (quiet_step (first | (with_reducible exact K0.out _ _) | (with_reducible exact K1.out _ _) | (with_reducible exact K2.out _ _)))
      refine wpQuiet_nil ?_
      intro _ hw'
      obtain ⟨⟨dq, osq⟩, hw''⟩ := hw'
      subst hw''
      go_wp2_with fail
      go_ret
      exact ⟨rfl, HS5.out.trans ((below_regrown w5 dq osq).mono HS5.out.size)⟩
  · simp only [vI] at *
    go_enter Tryz.func4, Tryz.ntmps4
    go_wp2_with (first
      | (go_at_call 6; refine (HA.out _).mono ?_; rintro e w2 ⟨rfl, hb⟩; have HB2 := Lib.hid (HS.out.trans (hb.mono HS.out.size)); have HBX2 := Lib.hid (HBX.out.on hb); obtain ⟨q0, q1, q2, q3, -⟩ := iblk HBX2.out; clear hb)
      | (go_at_call 15; refine (HG.out _ HB2.out).mono ?_; rintro e w3 ⟨rfl, hb⟩; have HB3 := Lib.hid (HB2.out.trans (hb.mono HB2.out.size)); have HBX3 := Lib.hid (HBX2.out.on hb); obtain ⟨t0, t1, t2, t3, -⟩ := iblk HBX3.out; clear hb)
      | (go_at_call 12; refine (HC.out _ HB3.out).mono ?_; rintro e w4 ⟨rfl, hb⟩; have HB4 := Lib.hid (HB3.out.trans (hb.mono HB3.out.size)); have HBX4 := Lib.hid (HBX3.out.on hb); obtain ⟨s0, s1, s2, s3, -⟩ := iblk HBX4.out; clear hb)
      | fail)
    obtain ⟨w5, hw5, RX, BX5, S5⟩ := bd_at w4 3 a2 (a2 + a3) (max (a2 - a4) 0) (a2 + a3 + a4)
    unfold bdc at hw5
    rw [hw5]
    have HB5 := Lib.hid (HB4.out.trans (S5.mono HB4.out.size))
    have HBX5 := Lib.hid (HBX4.out.on S5)
    have HSX5 := Lib.hid BX5
    have HN := bd_all x A cap (w4.heap.size + 1 + 1) w5 (.inr (.inr rfl)) (by omega) (by omega) (by omega) (by omega) (by omega) RX ((HH.out.keep HB5.out).more HB5.out.size) HX.out HCC.out
    generalize loneR 3 a2 (a2 + a3) x = r1 at *
    generalize loneR 3 (max (a2 - a4) 0) (a2 + a3 + a4) x = r2 at *
    obtain ⟨hn0, hn1, hn2, himp⟩ := HN
    simp only [vI] at hn0 hn1 hn2
    have HN0 := Lib.hid hn0
    have HN1 := Lib.hid hn1
    have HN2 := Lib.hid hn2
    clear hn0 hn1 hn2 RX BX5 S5 hw5 HX HH HCC HB2 HB3 HB4 HBX2 HBX3 HBX4 HA HG HC q0 q1 q2 q3 s0 s1 s2 s3 p0 p1 p2 p3 HS HBX hw1 hm
    obtain ⟨x0, x1, x2, x3, -⟩ := iblk HBX5.out
    have y0 := sblk HSX5.out
    have HS5 := Lib.hid HB5.out
    generalize w4.heap.size + 1 + 1 = gN at *
    clear HB5 HBX5 HSX5
    have l0 := cell_regrown x0
    have l1 := cell_regrown x1
    have l2 := cell_regrown x2
    have l3 := cell_regrown x3
    have l4 := cell_regrown y0
    have K0 := Lib.hid (fun dq os => Calls.regrown_of (HN0.out (grow (redrawn w5 dq) os) (below_regrown w5 dq os)))
    have K1 := Lib.hid (fun dq os => Calls.regrown_of (HN1.out (grow (redrawn w5 dq) os) (below_regrown w5 dq os)))
    have K2 := Lib.hid (fun dq os => Calls.regrown_of (HN2.out (grow (redrawn w5 dq) os) (below_regrown w5 dq os)))
    clear HN0 HN1 HN2
    rcases (by cases r1 <;> cases r2 <;> simp at himp ⊢ : (r1 = false ∧ r2 = false) ∨ (r1 = false ∧ r2 = true) ∨ (r1 = true ∧ r2 = true)) with ⟨rfl, rfl⟩ | ⟨rfl, rfl⟩ | ⟨rfl, rfl⟩
    all_goals
      simp only [Bool.or] at K0
      refine wp_region_quiet_below (by kernel_rfl) (by kernel_rfl) ?_
      repeat (quiet_step (first | (with_reducible exact K0.out _ _) | (with_reducible exact K1.out _ _) | (with_reducible exact K2.out _ _)))
      refine wpQuiet_nil ?_
      intro _ hw'
      obtain ⟨⟨dq, osq⟩, hw''⟩ := hw'
      subst hw''
      go_wp2_with fail
      go_ret
      exact ⟨rfl, HS5.out.trans ((below_regrown w5 dq osq).mono HS5.out.size)⟩
theorem walk (x : It) (A : Option Addr) (cap : Nat) (a1 a2 a3 a4 : Int) (w : World) (hx : okI 1048576 x) (h : AtV w x A cap) (b1 : 0 ≤ a1 ∧ a1 ≤ 255) (b2 : 0 ≤ a2 ∧ a2 ≤ 255) (b3 : 0 ≤ a3 ∧ a3 ≤ 255) (b4 : 0 ≤ a4 ∧ a4 ≤ 255) :
    Calls Tryz.prog 4 #[vI x A cap, .int .u8 a1, .int .u8 a2, .int .u8 a3, .int .u8 a4] w fun e w' => e = .returned (.bool true) ∧ Below w.heap.size w w' := by
  by_cases hg : greatB x = true
  · exact walk1 x A cap a1 a2 a3 a4 w hx h hg
  · have hg' : greatB x = false := by simpa using hg
    by_cases hc : checkR wrongI x = 0
    · exact walk3 x A cap a1 a2 a3 a4 w hx h hg' hc b1 b2 b3 b4
    · exact walk2 x A cap a1 a2 a3 a4 w hx h hg' hc
theorem own : ownKnob Tryz.prog.godebug = none := by kernel_rfl
theorem laidOut : laidOutB Tryz.prog = true := by kernel_rfl
set_option maxRecDepth 100000 in
theorem contract (H : Type) (enc : TypeId × Value → H) (W : World) (base : Nat) (args : Array Value) (ds gs : List (DataW H)) (before : List MemPlace) (hk : Rows.uptoSmall H (ds ++ gs) = true)
    (hval : ∀ (j : Nat) t v, Tryz.f4.params[j]? = some t → args[j]? = some v → Value.okWide Tryz.prog W .any base t v)
    (hW : DataW.Whole enc Tryz.prog Tryz.f4.params.toList Rows.denoteBoundsSpec.vars false W args.toList ds gs before) :
    Calls Tryz.prog 4 args W fun e W' => ∃ v, e = .returned v ∧ Rows.denoteBoundsSpec.post enc Tryz.prog Tryz.f4 false true false false W args v W' := by
  have hW' := hW
  obtain ⟨p, q, hA0, hV, hpq, _, _⟩ := hW
  have hA : DataW.TrodAll enc Tryz.prog W 0 (fun _ => true) true Tryz.f4.params.toList args.toList ds p := hA0
  rw [Tryz.params4] at hA hval
  obtain ⟨v0, vs0, d0, ds0, p0, q0, hargs, rfl, rfl, h0, r0⟩ := trodAll_cons hA
  obtain ⟨v1, vs1, d1, ds1, p1, q1, rfl, rfl, rfl, h1, r1⟩ := trodAll_cons r0
  obtain ⟨v2, vs2, d2, ds2, p2, q2, rfl, rfl, rfl, h2, r2⟩ := trodAll_cons r1
  obtain ⟨v3, vs3, d3, ds3, p3, q3, rfl, rfl, rfl, h3, r3⟩ := trodAll_cons r2
  obtain ⟨v4, vs4, d4, ds4, p4, q4, rfl, rfl, rfl, h4, r4⟩ := trodAll_cons r3
  obtain ⟨rfl, rfl, rfl⟩ := trodAll_nil r4
  obtain rfl : args = #[v0, v1, v2, v3, v4] := by cases args; simp_all
  obtain ⟨rfl, rfl⟩ := trodVars_none hV
  have hs : Rows.uptoBulk d0 + (Rows.uptoBulk d1 + (Rows.uptoBulk d2 + (Rows.uptoBulk d3 + (Rows.uptoBulk d4 + 0)))) ≤ 1048576 := of_decide_eq_true hk
  obtain ⟨x0, A0, c0, rfl, hx0, ho0⟩ := open_item (hval 0 28 v0 rfl rfl) h0
  obtain ⟨a1, rfl, _, w1⟩ := open_int Tryz.underlying5 (hval 1 5 v1 rfl rfl) h1
  have b1 : 0 ≤ a1 ∧ a1 ≤ 255 := by first | simpa [Lit.wf, IntKind.min, IntKind.max, IntKind.bits, IntKind.signed] using w1 | simpa [Lit.wf, IntKind.min, IntKind.max, IntKind.bits, IntKind.signed] using w1.2
  obtain ⟨a2, rfl, _, w2⟩ := open_int Tryz.underlying5 (hval 2 5 v2 rfl rfl) h2
  have b2 : 0 ≤ a2 ∧ a2 ≤ 255 := by first | simpa [Lit.wf, IntKind.min, IntKind.max, IntKind.bits, IntKind.signed] using w2 | simpa [Lit.wf, IntKind.min, IntKind.max, IntKind.bits, IntKind.signed] using w2.2
  obtain ⟨a3, rfl, _, w3⟩ := open_int Tryz.underlying5 (hval 3 5 v3 rfl rfl) h3
  have b3 : 0 ≤ a3 ∧ a3 ≤ 255 := by first | simpa [Lit.wf, IntKind.min, IntKind.max, IntKind.bits, IntKind.signed] using w3 | simpa [Lit.wf, IntKind.min, IntKind.max, IntKind.bits, IntKind.signed] using w3.2
  obtain ⟨a4, rfl, _, w4⟩ := open_int Tryz.underlying5 (hval 4 5 v4 rfl rfl) h4
  have b4 : 0 ≤ a4 ∧ a4 ≤ 255 := by first | simpa [Lit.wf, IntKind.min, IntKind.max, IntKind.bits, IntKind.signed] using w4 | simpa [Lit.wf, IntKind.min, IntKind.max, IntKind.bits, IntKind.signed] using w4.2
  refine (walk x0 A0 c0 a1 a2 a3 a4 W (okI_mono ho0 (by omega)) hx0 b1 b2 b3 b4).mono fun e W' ⟨he, hbl⟩ => ?_
  subst he
  exact ⟨_, rfl, law_post laidOut (by kernel_rfl) rfl (by kernel_rfl) Tryz.underlying4 rfl rfl rfl hW' hbl⟩
set_option maxRecDepth 100000 in
theorem lifted (os : Os) (started : os.Started) (H : Type) (enc : TypeId × Value → H) (F : Stop.Interp) :
    ReturnsInHanded {} Tryz.checked os 4 .any ((Rows.OpenSpec.upto Rows.denoteBoundsSpec).pre6 enc Tryz.prog Tryz.f4 Rows.denoteBoundsUptoRow.domain false) (((Rows.OpenSpec.upto Rows.denoteBoundsSpec).at F).post enc Tryz.prog Tryz.f4 false true false false) := by
  refine returnsInHanded_of_cond (C := Tryz.checked) (s := Rows.OpenSpec.upto Rows.denoteBoundsSpec) (k := Rows.uptoSmall) rfl own started (by kernel_rfl) Tryz.func4
    (OpenSpec.witness (enc := enc) (C := Tryz.checked) (s := Rows.OpenSpec.upto Rows.denoteBoundsSpec) (k := Rows.uptoSmall) rfl false ⟨#[], #[.agg #[.int .i64 0, .int .u64 0, .string ⟨#[]⟩, .slice none 0 0], .int .u8 0, .int .u8 0, .int .u8 0, .int .u8 0], []⟩ 8 (by kernel_rfl) (by kernel_rfl) (by kernel_rfl)
      (x := ([.agg [.lit (.int .i64 0), .lit (.int .u64 0), .lit (.string []), .nil], .lit (.int .u8 0), .lit (.int .u8 0), .lit (.int .u8 0), .lit (.int .u8 0)], [], [])) (by kernel_rfl) rfl (by kernel_rfl)) ?_
  intro W base args ds gs before hval hW _ hk _
  exact contract H enc W base args ds gs before hk hval hW
theorem over : Rows.denoteBoundsUptoRow.holds Tryz.pinned (Rows.OpenSpec.upto Rows.denoteBoundsSpec) :=
  OpenClaim.holds_of_cond 4 Tryz.f4 rfl rfl rfl rfl rfl rfl rfl ⟨rfl, rfl, rfl, rfl, rfl⟩ rfl rfl rfl rfl rfl (by kernel_rfl) Tryz.func4 (by kernel_rfl)
    (of_decide_eq_true (by kernel_rfl)) (by unfold Func.isWrapper; first | (rw [if_pos (by decide +kernel)]; kernel_rfl) | (rw [if_neg (by decide +kernel)]; exact ⟨rfl, rfl⟩))
    (fun os started H enc _ F => lifted os started H enc F)

/-- The statement. -/
theorem proved : Rows.DenoteBoundsUptoSaid := over
#print axioms proved
end Go.Proofs.YtjelgoeamaejmaaGreat.denoteBounds
