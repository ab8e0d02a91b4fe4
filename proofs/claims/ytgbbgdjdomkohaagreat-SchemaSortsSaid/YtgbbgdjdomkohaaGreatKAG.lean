/- Package float: Widen of doubles and others; narrow. -/
import Derived.Test.YtgbbgdjdomkohaaGreatKAF
namespace Go.Proofs.YtgbbgdjdomkohaaGreat
open Go.RowKit
set_option maxHeartbeats 1000000 in
theorem float_Widen_other (x : Nat) (W : Int) (h2 : W ≠ 2) (h4 : W ≠ 4) (h8 : W ≠ 8) (w : World) :
    Calls Tryz.prog 74 #[.int .u64 x, .int .i64 W] w fun e w' => e = .returned (.tuple #[.int .u64 0, .bool false]) ∧ Below w.heap.size w w' := by
  have q2 : (W == 2) = false := by simp [h2]
  have q4 : (W == 4) = false := by simp [h4]
  have q8 : (W == 8) = false := by simp [h8]
  generalize (x : Int) = z
  clear h2 h4 h8
  go_enter Tryz.func74, Tryz.ntmps74
  go_wp2_with fail
  go_ret2
  exact ⟨rfl, Below.refl _ _⟩
set_option maxHeartbeats 1000000 in
theorem float_Widen_double (x : Nat) (h : x < 2 ^ (1 + 11 + 52)) (w : World) :
    Calls Tryz.prog 74 #[.int .u64 x, .int .i64 8] w fun e w' => ∃ z : Nat, e = .returned (.tuple #[.int .u64 z, .bool true]) ∧ Wide 11 52 0 x z ∧ Below w.heap.size w w' := by
  have q0 : (0 : Int) ≤ x := by omega
  have q1 : (x : Int) / 18446744073709551616 = 0 := by omega
  have hs := Lib.hid (float_split .double x (by omega))
  have hi := Lib.hid (float_isNaN .double (fsg 11 52 x) (fex 11 52 x) (ffr 52 x))
  have e : decide ((fex 11 52 x : Int) = 2047 ∧ (ffr 52 x : Int) ≠ 0) = decide (FNan 11 52 x) := by
    unfold FNan
    have : ((fex 11 52 x : Int) = 2047 ∧ (ffr 52 x : Int) ≠ 0) ↔ (fex 11 52 x = 2 ^ 11 - 1 ∧ ffr 52 x ≠ 0) := by omega
    simp only [this]
  rw [e] at hi
  clear e
  unfold parts at hs hi
  by_cases hn : FNan 11 52 x
  · have HW := Lib.hid (widen_nan (O := 0) h hn)
    rw [show decide (FNan 11 52 x) = true by simp [hn]] at hi
    clear hn
    generalize (fsg 11 52 x : Int) = s at hs hi
    generalize (fex 11 52 x : Int) = e at hs hi
    generalize (ffr 52 x : Int) = f at hs hi
    generalize hz : (x : Int) = z at hs q0 q1 ⊢
    have HZ := Lib.hid hz
    clear hz
    go_enter Tryz.func74, Tryz.ntmps74
    go_wp2_with (go_at_call 69; refine (hs.out _).mono ?_; rintro r w' ⟨rfl, S1⟩)
    have b0 : Blk (w'.alloc (.cells (parts s e f) 111)) w'.heap.size 111 (parts s e f) := Blk.fresh _ _ _
    have S : Below w.heap.size w (w'.alloc (.cells (parts s e f) 111)) := S1.alloc S1.size _
    have hg : w.heap.size ≤ w'.heap.size := S1.size
    unfold parts at b0 S
    generalize w'.alloc (.cells #[.int .u64 s, .int .i64 e, .int .u64 f] 111) = w2 at *
    generalize w'.heap.size = g at *
    refine (hi.out _).mono ?_
    rintro r w3 ⟨rfl, S2⟩
    have HS := Lib.hid (S.trans (S2.mono S.size))
    clear S S1 S2 b0 hg
    go_wp2_with fail
    go_ret2
    exact ⟨9221120237041090560, rfl, HW.out, HS.out⟩
  · have HW := Lib.hid (widen_self h hn)
    rw [show decide (FNan 11 52 x) = false by simp [hn]] at hi
    clear hn
    generalize (fsg 11 52 x : Int) = s at hs hi
    generalize (fex 11 52 x : Int) = e at hs hi
    generalize (ffr 52 x : Int) = f at hs hi
    generalize hz : (x : Int) = z at hs q0 q1 ⊢
    have HZ := Lib.hid hz
    clear hz
    go_enter Tryz.func74, Tryz.ntmps74
    go_wp2_with (go_at_call 69; refine (hs.out _).mono ?_; rintro r w' ⟨rfl, S1⟩)
    have b0 : Blk (w'.alloc (.cells (parts s e f) 111)) w'.heap.size 111 (parts s e f) := Blk.fresh _ _ _
    have S : Below w.heap.size w (w'.alloc (.cells (parts s e f) 111)) := S1.alloc S1.size _
    have hg : w.heap.size ≤ w'.heap.size := S1.size
    unfold parts at b0 S
    generalize w'.alloc (.cells #[.int .u64 s, .int .i64 e, .int .u64 f] 111) = w2 at *
    generalize w'.heap.size = g at *
    refine (hi.out _).mono ?_
    rintro r w3 ⟨rfl, S2⟩
    have HS := Lib.hid (S.trans (S2.mono S.size))
    clear S S1 S2 b0 hg
    go_wp2_with fail
    go_ret2
    exact ⟨x, by rw [HZ.out]; rfl, HW.out, HS.out⟩
set_option maxRecDepth 100000 in
set_option maxHeartbeats 2000000 in
theorem float_narrow_half (x : Nat) (hx : x < 2 ^ 64) (hn : ¬ FNan 11 52 x) (w : World) :
    Calls Tryz.prog 73 #[.int .u64 x, .int .i64 2] w fun e w' => ∃ z : Nat, e = .returned (.int .u64 z) ∧ z < 2 ^ (1 + 5 + 10) ∧ (∀ y, Wide 5 10 1050 y x → z = y) ∧ Below w.heap.size w w' := by
  have h1 := Lib.hid (float_most .half)
  have h3 := Lib.hid (float_bias .half)
  have h4 := Lib.hid (float_bias .double)
  have h5 := Lib.hid (float_fb .half)
  have h6 := Lib.hid (float_fb .double)
  have hs := Lib.hid (float_split .double x hx)
  have hsm := f_small .double x
  unfold parts at hs
  have q2 : (fex 11 52 x : Int) < 2048 := by omega
  have q3 : (0 : Int) ≤ fex 11 52 x := by omega
  have r1 : IntKind.i64.wrap ((fex 11 52 x : Int) + -1008) = (fex 11 52 x : Int) - 1008 := by rw [IntWalk.i64_in _ (by omega)]; omega
  by_cases hA : fex 11 52 x + 15 ≥ 31 + 1023
  · have HW : Hid (∀ y, Wide 5 10 1050 y x → fsg 11 52 x * 2 ^ (5 + 10) + 31 * 2 ^ 10 + 0 = y) := Lib.hid fun y hy => by rw [Nat.add_zero]; exact (wide_small .half (by decide) hy hn).1 hA
    have q1 : (31 : Int) ≤ (fex 11 52 x : Int) - 1008 := by omega
    have HJ : Hid (∀ w, Calls Tryz.prog 104 #[.agg #[.int .u64 (fsg 11 52 x : Int), .int .i64 31, .int .u64 0], .int .i64 2] w fun r w' => r = .returned (.int .u64 ((fsg 11 52 x * 2 ^ (5 + 10) + 31 * 2 ^ 10 + 0 : Nat) : Int)) ∧ Below w.heap.size w w') := Lib.hid (float_join .half (fsg 11 52 x) 31 0 hsm.1 (by decide) (by decide))
    have HZ : Hid (fsg 11 52 x * 2 ^ (5 + 10) + 31 * 2 ^ 10 + 0 < 2 ^ (1 + 5 + 10)) := Lib.hid (f_parts .half hsm.1 (show 31 < 2 ^ 5 by decide) (show 0 < 2 ^ 10 by decide)).1
    generalize fsg 11 52 x * 2 ^ (5 + 10) + 31 * 2 ^ 10 + 0 = zz at *
    clear hA hn hsm
    generalize hsz : (fsg 11 52 x : Int) = s at *
    generalize (fex 11 52 x : Int) = e at *
    generalize (ffr 52 x : Int) = f at *
    generalize (x : Int) = z at *
    generalize hzi : (zz : Int) = zi at *
    have HZI := Lib.hid hzi
    clear hzi hsz
    go_enter Tryz.func73, Tryz.ntmps73
    go_wp2_with (go_at_call 69; refine (hs.out _).mono ?_; rintro r w' ⟨rfl, S1⟩)
    have b0 : Blk (w'.alloc (.cells (parts s e f) 111)) w'.heap.size 111 (parts s e f) := Blk.fresh _ _ _
    have S : Below w.heap.size w (w'.alloc (.cells (parts s e f) 111)) := S1.alloc S1.size _
    have hg : w.heap.size ≤ w'.heap.size := S1.size
    unfold parts at b0 S
    generalize w'.alloc (.cells #[.int .u64 s, .int .i64 e, .int .u64 f] 111) = w2 at *
    generalize w'.heap.size = g at *
    obtain ⟨c0, c1, c2, fz⟩ := pblk b0
    have f0 := fz 0
    have f1 := fz 1
    have f2 := fz 2
    have B0 := Lib.hid b0
    have HS := Lib.hid S
    have HG := Lib.hid hg
    clear fz b0 S1 S hg
    have r0 : IntKind.i64.wrap (-1008) = -1008 := rfl
    refine wp_region_still_tail 8 (by kernel_rfl) (by kernel_rfl) ?_
    simp only [List.take_succ_cons, List.take_zero, List.drop_succ_cons, List.drop_zero]
    repeat still_step
    still_call ((h3.out _).mono (fun _ _ h => ⟨h.1, h.2.symm⟩))
    repeat still_step
    still_call ((h4.out _).mono (fun _ _ h => ⟨h.1, h.2.symm⟩))
    repeat still_step
    refine wpStill_nil ?_
    clear r1 r0
    go_wp2_with fail
    clear q2 q3
    have B0 := Lib.hid (show Blk ((w2.setCell ⟨g, 1, none⟩ (.int .i64 (e - 1008))).drew) g 111 (parts s (e - 1008) f) from (B0.out.put 1 _).drew)
    have HS := Lib.hid (show Below w.heap.size w ((w2.setCell ⟨g, 1, none⟩ (.int .i64 (e - 1008))).drew) from below_drawn (HS.out.setCell HG.out _))
    clear c0 c1 c2 f0 f1 f2
    generalize (w2.setCell ⟨g, 1, none⟩ (.int .i64 (e - 1008))).drew = wd at *
    obtain ⟨c0, c1, c2, fz⟩ := pblk B0.out
    have f0 := fz 0
    have f1 := fz 1
    have f2 := fz 2
    clear fz
    go_quiet (with_reducible exact Calls.quiet_of_same ((h1.out _).mono (fun _ _ h => ⟨h.1, h.2.symm⟩)))
    have B0 := Lib.hid (show Blk (wd.drewN nq) g 111 (parts s (e - 1008) f) from B0.out.drewN nq)
    have HS := Lib.hid (show Below w.heap.size w (wd.drewN nq) from below_drawnN HS.out nq)
    clear c0 c1 c2 f0 f1 f2
    generalize wd.drewN nq = wd at *
    obtain ⟨c0, c1, c2, fz⟩ := pblk B0.out
    have f0 := fz 0
    have f1 := fz 1
    have f2 := fz 2
    clear fz
    go_wp2_with (go_at_call 90; refine (h1.out _).mono ?_; rintro e w' ⟨rfl, rfl⟩)
    have B0 := Lib.hid (show Blk ((wd.setCell ⟨g, 1, none⟩ (.int .i64 31)).setCell ⟨g, 2, none⟩ (.int .u64 0)) g 111 (parts s 31 0) from (B0.out.put 1 _).put 2 _)
    have HS := Lib.hid (show Below w.heap.size w ((wd.setCell ⟨g, 1, none⟩ (.int .i64 31)).setCell ⟨g, 2, none⟩ (.int .u64 0)) from (HS.out.setCell HG.out _).setCell HG.out _)
    clear c0 c1 c2 f0 f1 f2
    generalize (wd.setCell ⟨g, 1, none⟩ (.int .i64 31)).setCell ⟨g, 2, none⟩ (.int .u64 0) = wd at *
    obtain ⟨c0, c1, c2, fz⟩ := pblk B0.out
    have f0 := fz 0
    have f1 := fz 1
    have f2 := fz 2
    clear fz
    have p1 : IntKind.i64.wrap 42 = 42 := rfl
    refine wp_region_still_tail 8 (by kernel_rfl) (by kernel_rfl) ?_
    simp only [List.take_succ_cons, List.take_zero, List.drop_succ_cons, List.drop_zero]
    repeat still_step
    still_call ((h6.out _).mono (fun _ _ h => ⟨h.1, h.2.symm⟩))
    repeat still_step
    still_call ((h5.out _).mono (fun _ _ h => ⟨h.1, h.2.symm⟩))
    repeat still_step
    refine wpStill_nil ?_
    clear p1
    go_wp2_with fail
    have B0 := Lib.hid (show Blk ((wd.setCell ⟨g, 2, none⟩ (.int .u64 0)).drew) g 111 (parts s 31 0) from (B0.out.put 2 _).drew)
    have HS := Lib.hid (show Below w.heap.size w ((wd.setCell ⟨g, 2, none⟩ (.int .u64 0)).drew) from below_drawn (HS.out.setCell HG.out _))
    clear c0 c1 c2 f0 f1 f2
    generalize (wd.setCell ⟨g, 2, none⟩ (.int .u64 0)).drew = wd at *
    obtain ⟨c0, c1, c2, fz⟩ := pblk B0.out
    have f0 := fz 0
    have f1 := fz 1
    have f2 := fz 2
    clear fz
    go_wp2_with (go_at_call 104; refine (HJ.out _).mono ?_; rintro r w5 ⟨rfl, S5⟩)
    go_ret
    exact ⟨zz, by rw [HZI.out]; rfl, HZ.out, HW.out, HS.out.trans (S5.mono HS.out.size)⟩
  by_cases hB : fex 11 52 x + 15 ≤ 1023
  · have HW0 : Hid (∀ y, Wide 5 10 1050 y x → fsg 11 52 x * 2 ^ (5 + 10) + (ffr 52 x + 2 ^ 52) / 2 ^ (1009 - fex 11 52 x) / 2 ^ 42 = y) := Lib.hid fun y hy => (wide_small .half (by decide) hy hn).2.1 hB
    have q1 : (fex 11 52 x : Int) - 1008 ≤ 0 := by omega
    have q0 : (fex 11 52 x : Int) - 1008 < 31 := by omega
    have r2 : bits .or .u64 (ffr 52 x : Int) (IntKind.u64.wrap 4503599627370496) = ((ffr 52 x + 2 ^ 52 : Nat) : Int) := by
      have h := hsm.2.2
      rw [show IntKind.u64.wrap 4503599627370496 = ((4503599627370496 : Nat) : Int) from rfl, bits_or_u64_nat _ _ (by omega) (by decide), Nat.or_comm, nat_join 52 _ _ (by decide) h, Nat.add_comm]
    have HJ0 : Hid (∀ f' : Nat, f' < 2 ^ 10 → ∀ w, Calls Tryz.prog 104 #[.agg #[.int .u64 (fsg 11 52 x : Int), .int .i64 0, .int .u64 (f' : Int)], .int .i64 2] w fun r w' => r = .returned (.int .u64 ((fsg 11 52 x * 2 ^ (5 + 10) + 0 * 2 ^ 10 + f' : Nat) : Int)) ∧ Below w.heap.size w w') := Lib.hid fun f' hf' => float_join .half (fsg 11 52 x) 0 f' hsm.1 (by decide) hf'
    have HZ0 : Hid (∀ f' : Nat, f' < 2 ^ 10 → fsg 11 52 x * 2 ^ (5 + 10) + 0 * 2 ^ 10 + f' < 2 ^ (1 + 5 + 10)) := Lib.hid fun f' hf' => (f_parts .half hsm.1 (show 0 < 2 ^ 5 by decide) hf').1
    have HFF : Hid ((ffr 52 x + 2 ^ 52) / 2 ^ (1009 - fex 11 52 x) / 2 ^ 42 < 2 ^ 10) := Lib.hid (by
      have h := hsm.2.2
      have h1 : (ffr 52 x + 2 ^ 52) / 2 ^ (1009 - fex 11 52 x) ≤ (ffr 52 x + 2 ^ 52) / 2 ^ 1 := Nat.div_le_div_left (Nat.pow_le_pow_right (by decide) (by omega)) (by decide)
      omega)
    generalize hff : (ffr 52 x + 2 ^ 52) / 2 ^ (1009 - fex 11 52 x) / 2 ^ 42 = ff at *
    have HFX := Lib.hid hff
    have HFL := Lib.hid hsm.2.2
    clear hA hn hsm hB hff
    have HJ := Lib.hid (HJ0.out ff HFF.out)
    have HZ := Lib.hid (HZ0.out ff HFF.out)
    have HW := HW0
    rw [show fsg 11 52 x * 2 ^ (5 + 10) + ff = fsg 11 52 x * 2 ^ (5 + 10) + 0 * 2 ^ 10 + ff by omega] at HW
    clear HJ0 HZ0 HW0
    generalize fsg 11 52 x * 2 ^ (5 + 10) + 0 * 2 ^ 10 + ff = zz at *
    generalize hzi : (zz : Int) = zi at *
    have HZI := Lib.hid hzi
    clear hzi
    have v0 : (0 : Int) ≤ ((ffr 52 x + 2 ^ 52 : Nat) : Int) := by omega
    generalize hv : ((ffr 52 x + 2 ^ 52 : Nat) : Int) = v at r2 v0
    have HV := Lib.hid hv
    clear hv
    generalize hfi : (ff : Int) = fi at HJ
    have HFI := Lib.hid hfi
    clear hfi
    have r3 : wrap64 (1 - ((fex 11 52 x : Int) - 1008)) = ((1009 - fex 11 52 x : Nat) : Int) := by unfold wrap64; omega
    have hk : ((1009 - fex 11 52 x : Nat) : Int) ≤ 1024 := by omega
    generalize 1009 - fex 11 52 x = k at *
    generalize hez : (fex 11 52 x : Int) = e at *
    have HEZ := Lib.hid hez
    clear hez
    generalize hsz : (fsg 11 52 x : Int) = s at *
    generalize (ffr 52 x : Int) = f at *
    generalize (x : Int) = z at *
    clear hsz
    go_enter Tryz.func73, Tryz.ntmps73
    go_wp2_with (go_at_call 69; refine (hs.out _).mono ?_; rintro r w' ⟨rfl, S1⟩)
    have b0 : Blk (w'.alloc (.cells (parts s e f) 111)) w'.heap.size 111 (parts s e f) := Blk.fresh _ _ _
    have S : Below w.heap.size w (w'.alloc (.cells (parts s e f) 111)) := S1.alloc S1.size _
    have hg : w.heap.size ≤ w'.heap.size := S1.size
    unfold parts at b0 S
    generalize w'.alloc (.cells #[.int .u64 s, .int .i64 e, .int .u64 f] 111) = w2 at *
    generalize w'.heap.size = g at *
    obtain ⟨c0, c1, c2, fz⟩ := pblk b0
    have f0 := fz 0
    have f1 := fz 1
    have f2 := fz 2
    have B0 := Lib.hid b0
    have HS := Lib.hid S
    have HG := Lib.hid hg
    clear fz b0 S1 S hg
    have r0 : IntKind.i64.wrap (-1008) = -1008 := rfl
    refine wp_region_still_tail 8 (by kernel_rfl) (by kernel_rfl) ?_
    simp only [List.take_succ_cons, List.take_zero, List.drop_succ_cons, List.drop_zero]
    repeat still_step
    still_call ((h3.out _).mono (fun _ _ h => ⟨h.1, h.2.symm⟩))
    repeat still_step
    still_call ((h4.out _).mono (fun _ _ h => ⟨h.1, h.2.symm⟩))
    repeat still_step
    refine wpStill_nil ?_
    clear r1 r0
    go_wp2_with fail
    clear q2 q3
    have B0 := Lib.hid (show Blk ((w2.setCell ⟨g, 1, none⟩ (.int .i64 (e - 1008))).drew) g 111 (parts s (e - 1008) f) from (B0.out.put 1 _).drew)
    have HS := Lib.hid (show Below w.heap.size w ((w2.setCell ⟨g, 1, none⟩ (.int .i64 (e - 1008))).drew) from below_drawn (HS.out.setCell HG.out _))
    clear c0 c1 c2 f0 f1 f2
    generalize (w2.setCell ⟨g, 1, none⟩ (.int .i64 (e - 1008))).drew = wd at *
    obtain ⟨c0, c1, c2, fz⟩ := pblk B0.out
    have f0 := fz 0
    have f1 := fz 1
    have f2 := fz 2
    clear fz
    go_quiet (with_reducible exact Calls.quiet_of_same ((h1.out _).mono (fun _ _ h => ⟨h.1, h.2.symm⟩)))
    have B0 := Lib.hid (show Blk (wd.drewN nq) g 111 (parts s (e - 1008) f) from B0.out.drewN nq)
    have HS := Lib.hid (show Below w.heap.size w (wd.drewN nq) from below_drawnN HS.out nq)
    clear c0 c1 c2 f0 f1 f2
    generalize wd.drewN nq = wd at *
    obtain ⟨c0, c1, c2, fz⟩ := pblk B0.out
    have f0 := fz 0
    have f1 := fz 1
    have f2 := fz 2
    clear fz
    go_wp2_with fail
    refine wp_region_still_tail 6 (by kernel_rfl) (by kernel_rfl) ?_
    simp only [List.take_succ_cons, List.take_zero, List.drop_succ_cons, List.drop_zero]
    repeat still_step
    still_call ((h6.out _).mono (fun _ _ h => ⟨h.1, h.2.symm⟩))
    repeat still_step
    refine wpStill_nil ?_
    clear r2
    go_wp2_with fail
    have hu : v / 2 ^ min k 64 = (((ffr 52 x + 2 ^ 52) / 2 ^ k : Nat) : Int) := by
      rw [← HV.out]
      have hvl := HFL.out
      by_cases hk64 : k ≤ 64
      · rw [Nat.min_eq_left hk64]; simp
      · rw [Nat.min_eq_right (by omega), Nat.div_eq_of_lt (Nat.lt_of_lt_of_le (show ffr 52 x + 2 ^ 52 < 2 ^ 64 by omega) (Nat.pow_le_pow_right (by decide) (by omega)))]
        omega
    generalize v / 2 ^ min k 64 = u at *
    have r4 : u / 4398046511104 = fi := by
      have a1 := HFX.out
      have a2 := HFI.out
      rw [hu, ← a2, ← a1]
      simp
    clear hu
    have B0 := Lib.hid (show Blk ((((wd.setCell ⟨g, 2, none⟩ (.int .u64 v)).setCell ⟨g, 2, none⟩ (.int .u64 u)).setCell ⟨g, 1, none⟩ (.int .i64 0)).drew) g 111 (parts s 0 u) from (((B0.out.put 2 _).put 2 _).put 1 _).drew)
    have HS := Lib.hid (show Below w.heap.size w ((((wd.setCell ⟨g, 2, none⟩ (.int .u64 v)).setCell ⟨g, 2, none⟩ (.int .u64 u)).setCell ⟨g, 1, none⟩ (.int .i64 0)).drew) from below_drawn (((HS.out.setCell HG.out _).setCell HG.out _).setCell HG.out _))
    clear c0 c1 c2 f0 f1 f2
    generalize (((wd.setCell ⟨g, 2, none⟩ (.int .u64 v)).setCell ⟨g, 2, none⟩ (.int .u64 u)).setCell ⟨g, 1, none⟩ (.int .i64 0)).drew = wd at *
    obtain ⟨c0, c1, c2, fz⟩ := pblk B0.out
    have f0 := fz 0
    have f1 := fz 1
    have f2 := fz 2
    clear fz
    have p1 : IntKind.i64.wrap 42 = 42 := rfl
    refine wp_region_still_tail 8 (by kernel_rfl) (by kernel_rfl) ?_
    simp only [List.take_succ_cons, List.take_zero, List.drop_succ_cons, List.drop_zero]
    repeat still_step
    still_call ((h6.out _).mono (fun _ _ h => ⟨h.1, h.2.symm⟩))
    repeat still_step
    still_call ((h5.out _).mono (fun _ _ h => ⟨h.1, h.2.symm⟩))
    repeat still_step
    refine wpStill_nil ?_
    clear p1
    go_wp2_with fail
    have B0 := Lib.hid (show Blk ((wd.setCell ⟨g, 2, none⟩ (.int .u64 fi)).drew) g 111 (parts s 0 fi) from (B0.out.put 2 _).drew)
    have HS := Lib.hid (show Below w.heap.size w ((wd.setCell ⟨g, 2, none⟩ (.int .u64 fi)).drew) from below_drawn (HS.out.setCell HG.out _))
    clear c0 c1 c2 f0 f1 f2
    generalize (wd.setCell ⟨g, 2, none⟩ (.int .u64 fi)).drew = wd at *
    obtain ⟨c0, c1, c2, fz⟩ := pblk B0.out
    have f0 := fz 0
    have f1 := fz 1
    have f2 := fz 2
    clear fz
    go_wp2_with (go_at_call 104; refine (HJ.out _).mono ?_; rintro r w5 ⟨rfl, S5⟩)
    go_ret
    exact ⟨zz, by rw [HZI.out]; rfl, HZ.out, HW.out, HS.out.trans (S5.mono HS.out.size)⟩
  · have HW0 : Hid (∀ y, Wide 5 10 1050 y x → fsg 11 52 x * 2 ^ (5 + 10) + (fex 11 52 x + 15 - 1023) * 2 ^ 10 + ffr 52 x / 2 ^ 42 = y) := Lib.hid fun y hy => (wide_small .half (by decide) hy hn).2.2 (by omega) (by omega)
    have q1 : 0 < (fex 11 52 x : Int) - 1008 := by omega
    have q0 : (fex 11 52 x : Int) - 1008 < 31 := by omega
    have HE0 : fex 11 52 x + 15 - 1023 < 2 ^ 5 := by omega
    have HFF : ffr 52 x / 2 ^ 42 < 2 ^ 10 := by have := hsm.2.2; omega
    have HJ : Hid (∀ w, Calls Tryz.prog 104 #[.agg #[.int .u64 (fsg 11 52 x : Int), .int .i64 ((fex 11 52 x + 15 - 1023 : Nat) : Int), .int .u64 ((ffr 52 x / 2 ^ 42 : Nat) : Int)], .int .i64 2] w fun r w' => r = .returned (.int .u64 ((fsg 11 52 x * 2 ^ (5 + 10) + (fex 11 52 x + 15 - 1023) * 2 ^ 10 + ffr 52 x / 2 ^ 42 : Nat) : Int)) ∧ Below w.heap.size w w') := Lib.hid (float_join .half (fsg 11 52 x) (fex 11 52 x + 15 - 1023) (ffr 52 x / 2 ^ 42) hsm.1 HE0 HFF)
    have HZ : Hid (fsg 11 52 x * 2 ^ (5 + 10) + (fex 11 52 x + 15 - 1023) * 2 ^ 10 + ffr 52 x / 2 ^ 42 < 2 ^ (1 + 5 + 10)) := Lib.hid (f_parts .half hsm.1 HE0 HFF).1
    have HW := HW0
    clear HW0 HE0 HFF
    generalize fsg 11 52 x * 2 ^ (5 + 10) + (fex 11 52 x + 15 - 1023) * 2 ^ 10 + ffr 52 x / 2 ^ 42 = zz at *
    generalize hzi : (zz : Int) = zi at *
    have HZI := Lib.hid hzi
    have r4 : (ffr 52 x : Int) / 4398046511104 = ((ffr 52 x / 2 ^ 42 : Nat) : Int) := by omega
    generalize ((ffr 52 x / 2 ^ 42 : Nat) : Int) = fi at *
    rw [show ((fex 11 52 x + 15 - 1023 : Nat) : Int) = (fex 11 52 x : Int) - 1008 by omega] at HJ
    clear hA hn hsm hB hzi
    generalize hsz : (fsg 11 52 x : Int) = s at *
    generalize (fex 11 52 x : Int) = e at *
    generalize (ffr 52 x : Int) = f at *
    generalize (x : Int) = z at *
    clear hsz
    go_enter Tryz.func73, Tryz.ntmps73
    go_wp2_with (go_at_call 69; refine (hs.out _).mono ?_; rintro r w' ⟨rfl, S1⟩)
    have b0 : Blk (w'.alloc (.cells (parts s e f) 111)) w'.heap.size 111 (parts s e f) := Blk.fresh _ _ _
    have S : Below w.heap.size w (w'.alloc (.cells (parts s e f) 111)) := S1.alloc S1.size _
    have hg : w.heap.size ≤ w'.heap.size := S1.size
    unfold parts at b0 S
    generalize w'.alloc (.cells #[.int .u64 s, .int .i64 e, .int .u64 f] 111) = w2 at *
    generalize w'.heap.size = g at *
    obtain ⟨c0, c1, c2, fz⟩ := pblk b0
    have f0 := fz 0
    have f1 := fz 1
    have f2 := fz 2
    have B0 := Lib.hid b0
    have HS := Lib.hid S
    have HG := Lib.hid hg
    clear fz b0 S1 S hg
    have r0 : IntKind.i64.wrap (-1008) = -1008 := rfl
    refine wp_region_still_tail 8 (by kernel_rfl) (by kernel_rfl) ?_
    simp only [List.take_succ_cons, List.take_zero, List.drop_succ_cons, List.drop_zero]
    repeat still_step
    still_call ((h3.out _).mono (fun _ _ h => ⟨h.1, h.2.symm⟩))
    repeat still_step
    still_call ((h4.out _).mono (fun _ _ h => ⟨h.1, h.2.symm⟩))
    repeat still_step
    refine wpStill_nil ?_
    clear r1 r0
    go_wp2_with fail
    clear q2 q3
    have B0 := Lib.hid (show Blk ((w2.setCell ⟨g, 1, none⟩ (.int .i64 (e - 1008))).drew) g 111 (parts s (e - 1008) f) from (B0.out.put 1 _).drew)
    have HS := Lib.hid (show Below w.heap.size w ((w2.setCell ⟨g, 1, none⟩ (.int .i64 (e - 1008))).drew) from below_drawn (HS.out.setCell HG.out _))
    clear c0 c1 c2 f0 f1 f2
    generalize (w2.setCell ⟨g, 1, none⟩ (.int .i64 (e - 1008))).drew = wd at *
    obtain ⟨c0, c1, c2, fz⟩ := pblk B0.out
    have f0 := fz 0
    have f1 := fz 1
    have f2 := fz 2
    clear fz
    go_quiet (with_reducible exact Calls.quiet_of_same ((h1.out _).mono (fun _ _ h => ⟨h.1, h.2.symm⟩)))
    have B0 := Lib.hid (show Blk (wd.drewN nq) g 111 (parts s (e - 1008) f) from B0.out.drewN nq)
    have HS := Lib.hid (show Below w.heap.size w (wd.drewN nq) from below_drawnN HS.out nq)
    clear c0 c1 c2 f0 f1 f2
    generalize wd.drewN nq = wd at *
    obtain ⟨c0, c1, c2, fz⟩ := pblk B0.out
    have f0 := fz 0
    have f1 := fz 1
    have f2 := fz 2
    clear fz
    go_wp2_with fail
    have p1 : IntKind.i64.wrap 42 = 42 := rfl
    refine wp_region_still_tail 8 (by kernel_rfl) (by kernel_rfl) ?_
    simp only [List.take_succ_cons, List.take_zero, List.drop_succ_cons, List.drop_zero]
    repeat still_step
    still_call ((h6.out _).mono (fun _ _ h => ⟨h.1, h.2.symm⟩))
    repeat still_step
    still_call ((h5.out _).mono (fun _ _ h => ⟨h.1, h.2.symm⟩))
    repeat still_step
    refine wpStill_nil ?_
    clear p1
    go_wp2_with fail
    have B0 := Lib.hid (show Blk ((wd.setCell ⟨g, 2, none⟩ (.int .u64 fi)).drew) g 111 (parts s (e - 1008) fi) from (B0.out.put 2 _).drew)
    have HS := Lib.hid (show Below w.heap.size w ((wd.setCell ⟨g, 2, none⟩ (.int .u64 fi)).drew) from below_drawn (HS.out.setCell HG.out _))
    clear c0 c1 c2 f0 f1 f2
    generalize (wd.setCell ⟨g, 2, none⟩ (.int .u64 fi)).drew = wd at *
    obtain ⟨c0, c1, c2, fz⟩ := pblk B0.out
    have f0 := fz 0
    have f1 := fz 1
    have f2 := fz 2
    clear fz
    go_wp2_with (go_at_call 104; refine (HJ.out _).mono ?_; rintro r w5 ⟨rfl, S5⟩)
    go_ret
    exact ⟨zz, by rw [HZI.out]; rfl, HZ.out, HW.out, HS.out.trans (S5.mono HS.out.size)⟩
set_option maxRecDepth 100000 in
set_option maxHeartbeats 2000000 in
theorem float_narrow_single (x : Nat) (hx : x < 2 ^ 64) (hn : ¬ FNan 11 52 x) (w : World) :
    Calls Tryz.prog 73 #[.int .u64 x, .int .i64 4] w fun e w' => ∃ z : Nat, e = .returned (.int .u64 z) ∧ z < 2 ^ (1 + 8 + 23) ∧ (∀ y, Wide 8 23 925 y x → z = y) ∧ Below w.heap.size w w' := by
  have h1 := Lib.hid (float_most .single)
  have h3 := Lib.hid (float_bias .single)
  have h4 := Lib.hid (float_bias .double)
  have h5 := Lib.hid (float_fb .single)
  have h6 := Lib.hid (float_fb .double)
  have hs := Lib.hid (float_split .double x hx)
  have hsm := f_small .double x
  unfold parts at hs
  have q2 : (fex 11 52 x : Int) < 2048 := by omega
  have q3 : (0 : Int) ≤ fex 11 52 x := by omega
  have r1 : IntKind.i64.wrap ((fex 11 52 x : Int) + -896) = (fex 11 52 x : Int) - 896 := by rw [IntWalk.i64_in _ (by omega)]; omega
  by_cases hA : fex 11 52 x + 127 ≥ 255 + 1023
  · have HW : Hid (∀ y, Wide 8 23 925 y x → fsg 11 52 x * 2 ^ (8 + 23) + 255 * 2 ^ 23 + 0 = y) := Lib.hid fun y hy => by rw [Nat.add_zero]; exact (wide_small .single (by decide) hy hn).1 hA
    have q1 : (255 : Int) ≤ (fex 11 52 x : Int) - 896 := by omega
    have HJ : Hid (∀ w, Calls Tryz.prog 104 #[.agg #[.int .u64 (fsg 11 52 x : Int), .int .i64 255, .int .u64 0], .int .i64 4] w fun r w' => r = .returned (.int .u64 ((fsg 11 52 x * 2 ^ (8 + 23) + 255 * 2 ^ 23 + 0 : Nat) : Int)) ∧ Below w.heap.size w w') := Lib.hid (float_join .single (fsg 11 52 x) 255 0 hsm.1 (by decide) (by decide))
    have HZ : Hid (fsg 11 52 x * 2 ^ (8 + 23) + 255 * 2 ^ 23 + 0 < 2 ^ (1 + 8 + 23)) := Lib.hid (f_parts .single hsm.1 (show 255 < 2 ^ 8 by decide) (show 0 < 2 ^ 23 by decide)).1
    generalize fsg 11 52 x * 2 ^ (8 + 23) + 255 * 2 ^ 23 + 0 = zz at *
    clear hA hn hsm
    generalize hsz : (fsg 11 52 x : Int) = s at *
    generalize (fex 11 52 x : Int) = e at *
    generalize (ffr 52 x : Int) = f at *
    generalize (x : Int) = z at *
    generalize hzi : (zz : Int) = zi at *
    have HZI := Lib.hid hzi
    clear hzi hsz
    go_enter Tryz.func73, Tryz.ntmps73
    go_wp2_with (go_at_call 69; refine (hs.out _).mono ?_; rintro r w' ⟨rfl, S1⟩)
    have b0 : Blk (w'.alloc (.cells (parts s e f) 111)) w'.heap.size 111 (parts s e f) := Blk.fresh _ _ _
    have S : Below w.heap.size w (w'.alloc (.cells (parts s e f) 111)) := S1.alloc S1.size _
    have hg : w.heap.size ≤ w'.heap.size := S1.size
    unfold parts at b0 S
    generalize w'.alloc (.cells #[.int .u64 s, .int .i64 e, .int .u64 f] 111) = w2 at *
    generalize w'.heap.size = g at *
    obtain ⟨c0, c1, c2, fz⟩ := pblk b0
    have f0 := fz 0
    have f1 := fz 1
    have f2 := fz 2
    have B0 := Lib.hid b0
    have HS := Lib.hid S
    have HG := Lib.hid hg
    clear fz b0 S1 S hg
    have r0 : IntKind.i64.wrap (-896) = -896 := rfl
    refine wp_region_still_tail 8 (by kernel_rfl) (by kernel_rfl) ?_
    simp only [List.take_succ_cons, List.take_zero, List.drop_succ_cons, List.drop_zero]
    repeat still_step
    still_call ((h3.out _).mono (fun _ _ h => ⟨h.1, h.2.symm⟩))
    repeat still_step
    still_call ((h4.out _).mono (fun _ _ h => ⟨h.1, h.2.symm⟩))
    repeat still_step
    refine wpStill_nil ?_
    clear r1 r0
    go_wp2_with fail
    clear q2 q3
    have B0 := Lib.hid (show Blk ((w2.setCell ⟨g, 1, none⟩ (.int .i64 (e - 896))).drew) g 111 (parts s (e - 896) f) from (B0.out.put 1 _).drew)
    have HS := Lib.hid (show Below w.heap.size w ((w2.setCell ⟨g, 1, none⟩ (.int .i64 (e - 896))).drew) from below_drawn (HS.out.setCell HG.out _))
    clear c0 c1 c2 f0 f1 f2
    generalize (w2.setCell ⟨g, 1, none⟩ (.int .i64 (e - 896))).drew = wd at *
    obtain ⟨c0, c1, c2, fz⟩ := pblk B0.out
    have f0 := fz 0
    have f1 := fz 1
    have f2 := fz 2
    clear fz
    go_quiet (with_reducible exact Calls.quiet_of_same ((h1.out _).mono (fun _ _ h => ⟨h.1, h.2.symm⟩)))
    have B0 := Lib.hid (show Blk (wd.drewN nq) g 111 (parts s (e - 896) f) from B0.out.drewN nq)
    have HS := Lib.hid (show Below w.heap.size w (wd.drewN nq) from below_drawnN HS.out nq)
    clear c0 c1 c2 f0 f1 f2
    generalize wd.drewN nq = wd at *
    obtain ⟨c0, c1, c2, fz⟩ := pblk B0.out
    have f0 := fz 0
    have f1 := fz 1
    have f2 := fz 2
    clear fz
    go_wp2_with (go_at_call 90; refine (h1.out _).mono ?_; rintro e w' ⟨rfl, rfl⟩)
    have B0 := Lib.hid (show Blk ((wd.setCell ⟨g, 1, none⟩ (.int .i64 255)).setCell ⟨g, 2, none⟩ (.int .u64 0)) g 111 (parts s 255 0) from (B0.out.put 1 _).put 2 _)
    have HS := Lib.hid (show Below w.heap.size w ((wd.setCell ⟨g, 1, none⟩ (.int .i64 255)).setCell ⟨g, 2, none⟩ (.int .u64 0)) from (HS.out.setCell HG.out _).setCell HG.out _)
    clear c0 c1 c2 f0 f1 f2
    generalize (wd.setCell ⟨g, 1, none⟩ (.int .i64 255)).setCell ⟨g, 2, none⟩ (.int .u64 0) = wd at *
    obtain ⟨c0, c1, c2, fz⟩ := pblk B0.out
    have f0 := fz 0
    have f1 := fz 1
    have f2 := fz 2
    clear fz
    have p1 : IntKind.i64.wrap 29 = 29 := rfl
    refine wp_region_still_tail 8 (by kernel_rfl) (by kernel_rfl) ?_
    simp only [List.take_succ_cons, List.take_zero, List.drop_succ_cons, List.drop_zero]
    repeat still_step
    still_call ((h6.out _).mono (fun _ _ h => ⟨h.1, h.2.symm⟩))
    repeat still_step
    still_call ((h5.out _).mono (fun _ _ h => ⟨h.1, h.2.symm⟩))
    repeat still_step
    refine wpStill_nil ?_
    clear p1
    go_wp2_with fail
    have B0 := Lib.hid (show Blk ((wd.setCell ⟨g, 2, none⟩ (.int .u64 0)).drew) g 111 (parts s 255 0) from (B0.out.put 2 _).drew)
    have HS := Lib.hid (show Below w.heap.size w ((wd.setCell ⟨g, 2, none⟩ (.int .u64 0)).drew) from below_drawn (HS.out.setCell HG.out _))
    clear c0 c1 c2 f0 f1 f2
    generalize (wd.setCell ⟨g, 2, none⟩ (.int .u64 0)).drew = wd at *
    obtain ⟨c0, c1, c2, fz⟩ := pblk B0.out
    have f0 := fz 0
    have f1 := fz 1
    have f2 := fz 2
    clear fz
    go_wp2_with (go_at_call 104; refine (HJ.out _).mono ?_; rintro r w5 ⟨rfl, S5⟩)
    go_ret
    exact ⟨zz, by rw [HZI.out]; rfl, HZ.out, HW.out, HS.out.trans (S5.mono HS.out.size)⟩
  by_cases hB : fex 11 52 x + 127 ≤ 1023
  · have HW0 : Hid (∀ y, Wide 8 23 925 y x → fsg 11 52 x * 2 ^ (8 + 23) + (ffr 52 x + 2 ^ 52) / 2 ^ (897 - fex 11 52 x) / 2 ^ 29 = y) := Lib.hid fun y hy => (wide_small .single (by decide) hy hn).2.1 hB
    have q1 : (fex 11 52 x : Int) - 896 ≤ 0 := by omega
    have q0 : (fex 11 52 x : Int) - 896 < 255 := by omega
    have r2 : bits .or .u64 (ffr 52 x : Int) (IntKind.u64.wrap 4503599627370496) = ((ffr 52 x + 2 ^ 52 : Nat) : Int) := by
      have h := hsm.2.2
      rw [show IntKind.u64.wrap 4503599627370496 = ((4503599627370496 : Nat) : Int) from rfl, bits_or_u64_nat _ _ (by omega) (by decide), Nat.or_comm, nat_join 52 _ _ (by decide) h, Nat.add_comm]
    have HJ0 : Hid (∀ f' : Nat, f' < 2 ^ 23 → ∀ w, Calls Tryz.prog 104 #[.agg #[.int .u64 (fsg 11 52 x : Int), .int .i64 0, .int .u64 (f' : Int)], .int .i64 4] w fun r w' => r = .returned (.int .u64 ((fsg 11 52 x * 2 ^ (8 + 23) + 0 * 2 ^ 23 + f' : Nat) : Int)) ∧ Below w.heap.size w w') := Lib.hid fun f' hf' => float_join .single (fsg 11 52 x) 0 f' hsm.1 (by decide) hf'
    have HZ0 : Hid (∀ f' : Nat, f' < 2 ^ 23 → fsg 11 52 x * 2 ^ (8 + 23) + 0 * 2 ^ 23 + f' < 2 ^ (1 + 8 + 23)) := Lib.hid fun f' hf' => (f_parts .single hsm.1 (show 0 < 2 ^ 8 by decide) hf').1
    have HFF : Hid ((ffr 52 x + 2 ^ 52) / 2 ^ (897 - fex 11 52 x) / 2 ^ 29 < 2 ^ 23) := Lib.hid (by
      have h := hsm.2.2
      have h1 : (ffr 52 x + 2 ^ 52) / 2 ^ (897 - fex 11 52 x) ≤ (ffr 52 x + 2 ^ 52) / 2 ^ 1 := Nat.div_le_div_left (Nat.pow_le_pow_right (by decide) (by omega)) (by decide)
      omega)
    generalize hff : (ffr 52 x + 2 ^ 52) / 2 ^ (897 - fex 11 52 x) / 2 ^ 29 = ff at *
    have HFX := Lib.hid hff
    have HFL := Lib.hid hsm.2.2
    clear hA hn hsm hB hff
    have HJ := Lib.hid (HJ0.out ff HFF.out)
    have HZ := Lib.hid (HZ0.out ff HFF.out)
    have HW := HW0
    rw [show fsg 11 52 x * 2 ^ (8 + 23) + ff = fsg 11 52 x * 2 ^ (8 + 23) + 0 * 2 ^ 23 + ff by omega] at HW
    clear HJ0 HZ0 HW0
    generalize fsg 11 52 x * 2 ^ (8 + 23) + 0 * 2 ^ 23 + ff = zz at *
    generalize hzi : (zz : Int) = zi at *
    have HZI := Lib.hid hzi
    clear hzi
    have v0 : (0 : Int) ≤ ((ffr 52 x + 2 ^ 52 : Nat) : Int) := by omega
    generalize hv : ((ffr 52 x + 2 ^ 52 : Nat) : Int) = v at r2 v0
    have HV := Lib.hid hv
    clear hv
    generalize hfi : (ff : Int) = fi at HJ
    have HFI := Lib.hid hfi
    clear hfi
    have r3 : wrap64 (1 - ((fex 11 52 x : Int) - 896)) = ((897 - fex 11 52 x : Nat) : Int) := by unfold wrap64; omega
    have hk : ((897 - fex 11 52 x : Nat) : Int) ≤ 1024 := by omega
    generalize 897 - fex 11 52 x = k at *
    generalize hez : (fex 11 52 x : Int) = e at *
    have HEZ := Lib.hid hez
    clear hez
    generalize hsz : (fsg 11 52 x : Int) = s at *
    generalize (ffr 52 x : Int) = f at *
    generalize (x : Int) = z at *
    clear hsz
    go_enter Tryz.func73, Tryz.ntmps73
    go_wp2_with (go_at_call 69; refine (hs.out _).mono ?_; rintro r w' ⟨rfl, S1⟩)
    have b0 : Blk (w'.alloc (.cells (parts s e f) 111)) w'.heap.size 111 (parts s e f) := Blk.fresh _ _ _
    have S : Below w.heap.size w (w'.alloc (.cells (parts s e f) 111)) := S1.alloc S1.size _
    have hg : w.heap.size ≤ w'.heap.size := S1.size
    unfold parts at b0 S
    generalize w'.alloc (.cells #[.int .u64 s, .int .i64 e, .int .u64 f] 111) = w2 at *
    generalize w'.heap.size = g at *
    obtain ⟨c0, c1, c2, fz⟩ := pblk b0
    have f0 := fz 0
    have f1 := fz 1
    have f2 := fz 2
    have B0 := Lib.hid b0
    have HS := Lib.hid S
    have HG := Lib.hid hg
    clear fz b0 S1 S hg
    have r0 : IntKind.i64.wrap (-896) = -896 := rfl
    refine wp_region_still_tail 8 (by kernel_rfl) (by kernel_rfl) ?_
    simp only [List.take_succ_cons, List.take_zero, List.drop_succ_cons, List.drop_zero]
    repeat still_step
    still_call ((h3.out _).mono (fun _ _ h => ⟨h.1, h.2.symm⟩))
    repeat still_step
    still_call ((h4.out _).mono (fun _ _ h => ⟨h.1, h.2.symm⟩))
    repeat still_step
    refine wpStill_nil ?_
    clear r1 r0
    go_wp2_with fail
    clear q2 q3
    have B0 := Lib.hid (show Blk ((w2.setCell ⟨g, 1, none⟩ (.int .i64 (e - 896))).drew) g 111 (parts s (e - 896) f) from (B0.out.put 1 _).drew)
    have HS := Lib.hid (show Below w.heap.size w ((w2.setCell ⟨g, 1, none⟩ (.int .i64 (e - 896))).drew) from below_drawn (HS.out.setCell HG.out _))
    clear c0 c1 c2 f0 f1 f2
    generalize (w2.setCell ⟨g, 1, none⟩ (.int .i64 (e - 896))).drew = wd at *
    obtain ⟨c0, c1, c2, fz⟩ := pblk B0.out
    have f0 := fz 0
    have f1 := fz 1
    have f2 := fz 2
    clear fz
    go_quiet (with_reducible exact Calls.quiet_of_same ((h1.out _).mono (fun _ _ h => ⟨h.1, h.2.symm⟩)))
    have B0 := Lib.hid (show Blk (wd.drewN nq) g 111 (parts s (e - 896) f) from B0.out.drewN nq)
    have HS := Lib.hid (show Below w.heap.size w (wd.drewN nq) from below_drawnN HS.out nq)
    clear c0 c1 c2 f0 f1 f2
    generalize wd.drewN nq = wd at *
    obtain ⟨c0, c1, c2, fz⟩ := pblk B0.out
    have f0 := fz 0
    have f1 := fz 1
    have f2 := fz 2
    clear fz
    go_wp2_with fail
    refine wp_region_still_tail 6 (by kernel_rfl) (by kernel_rfl) ?_
    simp only [List.take_succ_cons, List.take_zero, List.drop_succ_cons, List.drop_zero]
    repeat still_step
    still_call ((h6.out _).mono (fun _ _ h => ⟨h.1, h.2.symm⟩))
    repeat still_step
    refine wpStill_nil ?_
    clear r2
    go_wp2_with fail
    have hu : v / 2 ^ min k 64 = (((ffr 52 x + 2 ^ 52) / 2 ^ k : Nat) : Int) := by
      rw [← HV.out]
      have hvl := HFL.out
      by_cases hk64 : k ≤ 64
      · rw [Nat.min_eq_left hk64]; simp
      · rw [Nat.min_eq_right (by omega), Nat.div_eq_of_lt (Nat.lt_of_lt_of_le (show ffr 52 x + 2 ^ 52 < 2 ^ 64 by omega) (Nat.pow_le_pow_right (by decide) (by omega)))]
        omega
    generalize v / 2 ^ min k 64 = u at *
    have r4 : u / 536870912 = fi := by
      have a1 := HFX.out
      have a2 := HFI.out
      rw [hu, ← a2, ← a1]
      simp
    clear hu
    have B0 := Lib.hid (show Blk ((((wd.setCell ⟨g, 2, none⟩ (.int .u64 v)).setCell ⟨g, 2, none⟩ (.int .u64 u)).setCell ⟨g, 1, none⟩ (.int .i64 0)).drew) g 111 (parts s 0 u) from (((B0.out.put 2 _).put 2 _).put 1 _).drew)
    have HS := Lib.hid (show Below w.heap.size w ((((wd.setCell ⟨g, 2, none⟩ (.int .u64 v)).setCell ⟨g, 2, none⟩ (.int .u64 u)).setCell ⟨g, 1, none⟩ (.int .i64 0)).drew) from below_drawn (((HS.out.setCell HG.out _).setCell HG.out _).setCell HG.out _))
    clear c0 c1 c2 f0 f1 f2
    generalize (((wd.setCell ⟨g, 2, none⟩ (.int .u64 v)).setCell ⟨g, 2, none⟩ (.int .u64 u)).setCell ⟨g, 1, none⟩ (.int .i64 0)).drew = wd at *
    obtain ⟨c0, c1, c2, fz⟩ := pblk B0.out
    have f0 := fz 0
    have f1 := fz 1
    have f2 := fz 2
    clear fz
    have p1 : IntKind.i64.wrap 29 = 29 := rfl
    refine wp_region_still_tail 8 (by kernel_rfl) (by kernel_rfl) ?_
    simp only [List.take_succ_cons, List.take_zero, List.drop_succ_cons, List.drop_zero]
    repeat still_step
    still_call ((h6.out _).mono (fun _ _ h => ⟨h.1, h.2.symm⟩))
    repeat still_step
    still_call ((h5.out _).mono (fun _ _ h => ⟨h.1, h.2.symm⟩))
    repeat still_step
    refine wpStill_nil ?_
    clear p1
    go_wp2_with fail
    have B0 := Lib.hid (show Blk ((wd.setCell ⟨g, 2, none⟩ (.int .u64 fi)).drew) g 111 (parts s 0 fi) from (B0.out.put 2 _).drew)
    have HS := Lib.hid (show Below w.heap.size w ((wd.setCell ⟨g, 2, none⟩ (.int .u64 fi)).drew) from below_drawn (HS.out.setCell HG.out _))
    clear c0 c1 c2 f0 f1 f2
    generalize (wd.setCell ⟨g, 2, none⟩ (.int .u64 fi)).drew = wd at *
    obtain ⟨c0, c1, c2, fz⟩ := pblk B0.out
    have f0 := fz 0
    have f1 := fz 1
    have f2 := fz 2
    clear fz
    go_wp2_with (go_at_call 104; refine (HJ.out _).mono ?_; rintro r w5 ⟨rfl, S5⟩)
    go_ret
    exact ⟨zz, by rw [HZI.out]; rfl, HZ.out, HW.out, HS.out.trans (S5.mono HS.out.size)⟩
  · have HW0 : Hid (∀ y, Wide 8 23 925 y x → fsg 11 52 x * 2 ^ (8 + 23) + (fex 11 52 x + 127 - 1023) * 2 ^ 23 + ffr 52 x / 2 ^ 29 = y) := Lib.hid fun y hy => (wide_small .single (by decide) hy hn).2.2 (by omega) (by omega)
    have q1 : 0 < (fex 11 52 x : Int) - 896 := by omega
    have q0 : (fex 11 52 x : Int) - 896 < 255 := by omega
    have HE0 : fex 11 52 x + 127 - 1023 < 2 ^ 8 := by omega
    have HFF : ffr 52 x / 2 ^ 29 < 2 ^ 23 := by have := hsm.2.2; omega
    have HJ : Hid (∀ w, Calls Tryz.prog 104 #[.agg #[.int .u64 (fsg 11 52 x : Int), .int .i64 ((fex 11 52 x + 127 - 1023 : Nat) : Int), .int .u64 ((ffr 52 x / 2 ^ 29 : Nat) : Int)], .int .i64 4] w fun r w' => r = .returned (.int .u64 ((fsg 11 52 x * 2 ^ (8 + 23) + (fex 11 52 x + 127 - 1023) * 2 ^ 23 + ffr 52 x / 2 ^ 29 : Nat) : Int)) ∧ Below w.heap.size w w') := Lib.hid (float_join .single (fsg 11 52 x) (fex 11 52 x + 127 - 1023) (ffr 52 x / 2 ^ 29) hsm.1 HE0 HFF)
    have HZ : Hid (fsg 11 52 x * 2 ^ (8 + 23) + (fex 11 52 x + 127 - 1023) * 2 ^ 23 + ffr 52 x / 2 ^ 29 < 2 ^ (1 + 8 + 23)) := Lib.hid (f_parts .single hsm.1 HE0 HFF).1
    have HW := HW0
    clear HW0 HE0 HFF
    generalize fsg 11 52 x * 2 ^ (8 + 23) + (fex 11 52 x + 127 - 1023) * 2 ^ 23 + ffr 52 x / 2 ^ 29 = zz at *
    generalize hzi : (zz : Int) = zi at *
    have HZI := Lib.hid hzi
    have r4 : (ffr 52 x : Int) / 536870912 = ((ffr 52 x / 2 ^ 29 : Nat) : Int) := by omega
    generalize ((ffr 52 x / 2 ^ 29 : Nat) : Int) = fi at *
    rw [show ((fex 11 52 x + 127 - 1023 : Nat) : Int) = (fex 11 52 x : Int) - 896 by omega] at HJ
    clear hA hn hsm hB hzi
    generalize hsz : (fsg 11 52 x : Int) = s at *
    generalize (fex 11 52 x : Int) = e at *
    generalize (ffr 52 x : Int) = f at *
    generalize (x : Int) = z at *
    clear hsz
    go_enter Tryz.func73, Tryz.ntmps73
    go_wp2_with (go_at_call 69; refine (hs.out _).mono ?_; rintro r w' ⟨rfl, S1⟩)
    have b0 : Blk (w'.alloc (.cells (parts s e f) 111)) w'.heap.size 111 (parts s e f) := Blk.fresh _ _ _
    have S : Below w.heap.size w (w'.alloc (.cells (parts s e f) 111)) := S1.alloc S1.size _
    have hg : w.heap.size ≤ w'.heap.size := S1.size
    unfold parts at b0 S
    generalize w'.alloc (.cells #[.int .u64 s, .int .i64 e, .int .u64 f] 111) = w2 at *
    generalize w'.heap.size = g at *
    obtain ⟨c0, c1, c2, fz⟩ := pblk b0
    have f0 := fz 0
    have f1 := fz 1
    have f2 := fz 2
    have B0 := Lib.hid b0
    have HS := Lib.hid S
    have HG := Lib.hid hg
    clear fz b0 S1 S hg
    have r0 : IntKind.i64.wrap (-896) = -896 := rfl
    refine wp_region_still_tail 8 (by kernel_rfl) (by kernel_rfl) ?_
    simp only [List.take_succ_cons, List.take_zero, List.drop_succ_cons, List.drop_zero]
    repeat still_step
    still_call ((h3.out _).mono (fun _ _ h => ⟨h.1, h.2.symm⟩))
    repeat still_step
    still_call ((h4.out _).mono (fun _ _ h => ⟨h.1, h.2.symm⟩))
    repeat still_step
    refine wpStill_nil ?_
    clear r1 r0
    go_wp2_with fail
    clear q2 q3
    have B0 := Lib.hid (show Blk ((w2.setCell ⟨g, 1, none⟩ (.int .i64 (e - 896))).drew) g 111 (parts s (e - 896) f) from (B0.out.put 1 _).drew)
    have HS := Lib.hid (show Below w.heap.size w ((w2.setCell ⟨g, 1, none⟩ (.int .i64 (e - 896))).drew) from below_drawn (HS.out.setCell HG.out _))
    clear c0 c1 c2 f0 f1 f2
    generalize (w2.setCell ⟨g, 1, none⟩ (.int .i64 (e - 896))).drew = wd at *
    obtain ⟨c0, c1, c2, fz⟩ := pblk B0.out
    have f0 := fz 0
    have f1 := fz 1
    have f2 := fz 2
    clear fz
    go_quiet (with_reducible exact Calls.quiet_of_same ((h1.out _).mono (fun _ _ h => ⟨h.1, h.2.symm⟩)))
    have B0 := Lib.hid (show Blk (wd.drewN nq) g 111 (parts s (e - 896) f) from B0.out.drewN nq)
    have HS := Lib.hid (show Below w.heap.size w (wd.drewN nq) from below_drawnN HS.out nq)
    clear c0 c1 c2 f0 f1 f2
    generalize wd.drewN nq = wd at *
    obtain ⟨c0, c1, c2, fz⟩ := pblk B0.out
    have f0 := fz 0
    have f1 := fz 1
    have f2 := fz 2
    clear fz
    go_wp2_with fail
    have p1 : IntKind.i64.wrap 29 = 29 := rfl
    refine wp_region_still_tail 8 (by kernel_rfl) (by kernel_rfl) ?_
    simp only [List.take_succ_cons, List.take_zero, List.drop_succ_cons, List.drop_zero]
    repeat still_step
    still_call ((h6.out _).mono (fun _ _ h => ⟨h.1, h.2.symm⟩))
    repeat still_step
    still_call ((h5.out _).mono (fun _ _ h => ⟨h.1, h.2.symm⟩))
    repeat still_step
    refine wpStill_nil ?_
    clear p1
    go_wp2_with fail
    have B0 := Lib.hid (show Blk ((wd.setCell ⟨g, 2, none⟩ (.int .u64 fi)).drew) g 111 (parts s (e - 896) fi) from (B0.out.put 2 _).drew)
    have HS := Lib.hid (show Below w.heap.size w ((wd.setCell ⟨g, 2, none⟩ (.int .u64 fi)).drew) from below_drawn (HS.out.setCell HG.out _))
    clear c0 c1 c2 f0 f1 f2
    generalize (wd.setCell ⟨g, 2, none⟩ (.int .u64 fi)).drew = wd at *
    obtain ⟨c0, c1, c2, fz⟩ := pblk B0.out
    have f0 := fz 0
    have f1 := fz 1
    have f2 := fz 2
    clear fz
    go_wp2_with (go_at_call 104; refine (HJ.out _).mono ?_; rintro r w5 ⟨rfl, S5⟩)
    go_ret
    exact ⟨zz, by rw [HZI.out]; rfl, HZ.out, HW.out, HS.out.trans (S5.mono HS.out.size)⟩
end Go.Proofs.YtgbbgdjdomkohaaGreat
