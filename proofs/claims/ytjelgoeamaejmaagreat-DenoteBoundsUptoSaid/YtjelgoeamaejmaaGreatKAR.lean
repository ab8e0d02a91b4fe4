/- Package float: a half or a single, widened. -/
import Derived.Test.YtjelgoeamaejmaaGreatKAQ
namespace Go.Proofs.YtjelgoeamaejmaaGreat
open Go.RowKit
set_option maxRecDepth 100000 in
set_option maxHeartbeats 2000000 in
theorem float_widened_half (y : Nat) (hy : y < 2 ^ (1 + 5 + 10)) (hn : ¬ FNan 5 10 y) (w : World) :
    Calls Tryz.prog 166 #[.agg (parts (fsg 5 10 y) (fex 5 10 y) (ffr 10 y)), .int .i64 2] w fun r w' => ∃ e' f' : Nat, r = .returned (.agg (parts (fsg 5 10 y) e' f')) ∧
      e' < 2 ^ 11 ∧ f' < 2 ^ 52 ∧ Wide 5 10 1050 y (fsg 5 10 y * 2 ^ (11 + 52) + e' * 2 ^ 52 + f') ∧ Below w.heap.size w w' := by
  have h1 := Lib.hid (float_most .half)
  have h2 := Lib.hid (float_most .double)
  have h3 := Lib.hid (float_bias .half)
  have h4 := Lib.hid (float_bias .double)
  have h5 := Lib.hid (float_fb .half)
  have h6 := Lib.hid (float_fb .double)
  have hsm := f_small .half y
  unfold parts
  by_cases hA : fex 5 10 y = 2 ^ 5 - 1
  · have hf : ffr 10 y = 0 := Decidable.byContradiction fun h => hn ⟨hA, h⟩
    have HW : Hid (Wide 5 10 1050 y (fsg 5 10 y * 2 ^ (11 + 52) + 2047 * 2 ^ 52 + 0)) := Lib.hid (by
      have := widen_inf .half hy hA hf
      unfold finf at this
      rw [Nat.add_zero]
      exact this)
    rw [hA, hf, show ((2 ^ 5 - 1 : Nat) : Int) = 31 from rfl, show ((0 : Nat) : Int) = 0 from rfl]
    clear hA hf hn hsm hy
    generalize hsz : (fsg 5 10 y : Int) = s
    go_enter Tryz.func166, Tryz.ntmps166
    go_wp2_with fail
    have b0 : Blk ((w.alloc (.cells (parts s 31 0) 116)).alloc (.cells (parts 0 0 0) 116)) w.heap.size 116 (parts s 31 0) := (Blk.fresh _ _ _).alloc _
    have b1 : Blk ((w.alloc (.cells (parts s 31 0) 116)).alloc (.cells (parts 0 0 0) 116)) (w.heap.size + 1) 116 (parts 0 0 0) := Blk.freshAt _ _ _ _ (by simp)
    have S : Below w.heap.size w ((w.alloc (.cells (parts s 31 0) 116)).alloc (.cells (parts 0 0 0) 116)) := ((Below.refl _ _).alloc (Nat.le_refl _) _).alloc (by simp) _
    unfold parts at b0 b1 S
    generalize (w.alloc (.cells #[.int .u64 s, .int .i64 31, .int .u64 0] 116)).alloc (.cells #[.int .u64 0, .int .i64 0, .int .u64 0] 116) = w1 at *
    generalize hgg : w.heap.size = g at *
    obtain ⟨c0, c1, c2, fz⟩ := pblk b0
    have f0 := fz 0
    have f1 := fz 1
    have f2 := fz 2
    have B0 := Lib.hid b0
    have B1 := Lib.hid b1
    have HS := Lib.hid S
    clear fz b0 b1 S
    go_quiet (with_reducible exact Calls.quiet_of_same ((h1.out _).mono (fun _ _ h => ⟨h.1, h.2.symm⟩)))
    have B0 := Lib.hid (show Blk (w1.drewN nq) g 116 (parts s 31 0) from B0.out.drewN nq)
    have B1 := Lib.hid (show Blk (w1.drewN nq) (g + 1) 116 (parts 0 0 0) from B1.out.drewN nq)
    have HS := Lib.hid (show Below g w (w1.drewN nq) from below_drawnN HS.out nq)
    clear c0 c1 c2 f0 f1 f2
    generalize w1.drewN nq = wd at *
    obtain ⟨c0, c1, c2, fz⟩ := pblk B0.out
    have f0 := fz 0
    have f1 := fz 1
    have f2 := fz 2
    clear fz
    go_wp2_with (go_at_call 101; refine (h2.out _).mono ?_; rintro e w' ⟨rfl, rfl⟩)
    have B0 := Lib.hid (show Blk (wd.setCell ⟨g, 1, none⟩ (.int .i64 2047)) g 116 (parts s 2047 0) from B0.out.put 1 _)
    have B1 := Lib.hid (show Blk (wd.setCell ⟨g, 1, none⟩ (.int .i64 2047)) (g + 1) 116 (parts 0 0 0) from B1.out.far (p := ⟨g, 1, none⟩) (Nat.succ_ne_self g) _)
    have HS := Lib.hid (show Below g w (wd.setCell ⟨g, 1, none⟩ (.int .i64 2047)) from HS.out.setCell (Nat.le_refl _) _)
    clear c0 c1 c2 f0 f1 f2
    generalize wd.setCell ⟨g, 1, none⟩ (.int .i64 2047) = wd at *
    obtain ⟨c0, c1, c2, fz⟩ := pblk B0.out
    have f0 := fz 0
    have f1 := fz 1
    have f2 := fz 2
    clear fz
    obtain ⟨d0, d1, d2, dz⟩ := pblk B1.out
    have g0 := dz 0
    have g1 := dz 1
    have g2 := dz 2
    clear dz
    have q1 : IntKind.i64.wrap 42 = 42 := rfl
    refine wp_region_still_tail 8 (by kernel_rfl) (by kernel_rfl) ?_
    simp only [List.take_succ_cons, List.take_zero, List.drop_succ_cons, List.drop_zero]
    repeat still_step
    still_call ((h6.out _).mono (fun _ _ h => ⟨h.1, h.2.symm⟩))
    repeat still_step
    still_call ((h5.out _).mono (fun _ _ h => ⟨h.1, h.2.symm⟩))
    repeat still_step
    refine wpStill_nil ?_
    clear q1
    try clear q2 q3 q4
    as_aux_lemma =>
      go_wp2
      refine bodyPost_ret (results_blk rfl _ rfl (((((B1.out.drew.far (Nat.succ_ne_self g) _).put 0 _).put 1 _).put 2 _)) Tryz.underlying116 rfl size_parts) rfl ?_
      have HF := below_drawn ((((HS.out.setCell (p := ⟨g, 2, none⟩) (Nat.le_refl _) (.int .u64 0)).setCell (p := ⟨g + 1, 0, none⟩) (Nat.le_succ g) (.int .u64 s)).setCell (p := ⟨g + 1, 1, none⟩) (Nat.le_succ g) (.int .i64 2047)).setCell (p := ⟨g + 1, 2, none⟩) (Nat.le_succ g) (.int .u64 0))
      exact ⟨2047, 0, rfl, by decide, by decide, HW.out, by rw [hgg]; exact HF⟩
  by_cases hB : fex 5 10 y = 0
  · have hA0 : (((fex 5 10 y : Nat) : Int)) = 0 := by omega
    rw [hA0]
    by_cases hf : ffr 10 y = 0
    · have HW : Hid (Wide 5 10 1050 y (fsg 5 10 y * 2 ^ (11 + 52) + 0 * 2 ^ 52 + 0)) := Lib.hid (by
        rw [Nat.zero_mul, Nat.add_zero, Nat.add_zero]
        exact widen_zero .half hy hB hf)
      have hf0 : (((ffr 10 y : Nat) : Int)) = 0 := by omega
      rw [hf0]
      clear hA hf hn hsm hy hA0 hf0 hB
      generalize hsz : (fsg 5 10 y : Int) = s
      go_enter Tryz.func166, Tryz.ntmps166
      go_wp2_with fail
      have b0 : Blk ((w.alloc (.cells (parts s 0 0) 116)).alloc (.cells (parts 0 0 0) 116)) w.heap.size 116 (parts s 0 0) := (Blk.fresh _ _ _).alloc _
      have b1 : Blk ((w.alloc (.cells (parts s 0 0) 116)).alloc (.cells (parts 0 0 0) 116)) (w.heap.size + 1) 116 (parts 0 0 0) := Blk.freshAt _ _ _ _ (by simp)
      have S : Below w.heap.size w ((w.alloc (.cells (parts s 0 0) 116)).alloc (.cells (parts 0 0 0) 116)) := ((Below.refl _ _).alloc (Nat.le_refl _) _).alloc (by simp) _
      unfold parts at b0 b1 S
      generalize (w.alloc (.cells #[.int .u64 s, .int .i64 0, .int .u64 0] 116)).alloc (.cells #[.int .u64 0, .int .i64 0, .int .u64 0] 116) = w1 at *
      generalize hgg : w.heap.size = g at *
      obtain ⟨c0, c1, c2, fz⟩ := pblk b0
      have f0 := fz 0
      have f1 := fz 1
      have f2 := fz 2
      have B0 := Lib.hid b0
      have B1 := Lib.hid b1
      have HS := Lib.hid S
      clear fz b0 b1 S
      go_quiet (with_reducible exact Calls.quiet_of_same ((h1.out _).mono (fun _ _ h => ⟨h.1, h.2.symm⟩)))
      have B0 := Lib.hid (show Blk (w1.drewN nq) g 116 (parts s 0 0) from B0.out.drewN nq)
      have B1 := Lib.hid (show Blk (w1.drewN nq) (g + 1) 116 (parts 0 0 0) from B1.out.drewN nq)
      have HS := Lib.hid (show Below g w (w1.drewN nq) from below_drawnN HS.out nq)
      clear c0 c1 c2 f0 f1 f2
      generalize w1.drewN nq = wd at *
      obtain ⟨c0, c1, c2, fz⟩ := pblk B0.out
      have f0 := fz 0
      have f1 := fz 1
      have f2 := fz 2
      clear fz
      go_wp2_with fail
      obtain ⟨d0, d1, d2, dz⟩ := pblk B1.out
      have g0 := dz 0
      have g1 := dz 1
      have g2 := dz 2
      clear dz
      have q1 : IntKind.i64.wrap 42 = 42 := rfl
      refine wp_region_still_tail 8 (by kernel_rfl) (by kernel_rfl) ?_
      simp only [List.take_succ_cons, List.take_zero, List.drop_succ_cons, List.drop_zero]
      repeat still_step
      still_call ((h6.out _).mono (fun _ _ h => ⟨h.1, h.2.symm⟩))
      repeat still_step
      still_call ((h5.out _).mono (fun _ _ h => ⟨h.1, h.2.symm⟩))
      repeat still_step
      refine wpStill_nil ?_
      clear q1
      try clear q2 q3 q4
      as_aux_lemma =>
        go_wp2
        refine bodyPost_ret (results_blk rfl _ rfl (((((B1.out.drew.far (Nat.succ_ne_self g) _).put 0 _).put 1 _).put 2 _)) Tryz.underlying116 rfl size_parts) rfl ?_
        have HF := below_drawn ((((HS.out.setCell (p := ⟨g, 2, none⟩) (Nat.le_refl _) (.int .u64 0)).setCell (p := ⟨g + 1, 0, none⟩) (Nat.le_succ g) (.int .u64 s)).setCell (p := ⟨g + 1, 1, none⟩) (Nat.le_succ g) (.int .i64 0)).setCell (p := ⟨g + 1, 2, none⟩) (Nat.le_succ g) (.int .u64 0))
        exact ⟨0, 0, rfl, by decide, by decide, HW.out, by rw [hgg]; exact HF⟩
    · have HN := Lib.hid (float_normal_half (fsg 5 10 y) (ffr 10 y) (by omega) hsm.2.2 0)
      unfold parts at HN
      have HWk : Hid (∀ k, 1024 ≤ upN (ffr 10 y) k → upN (ffr 10 y) k < 2048 → k ≤ 10 → Wide 5 10 1050 y (fsg 5 10 y * 2 ^ (11 + 52) + dnN 1009 k * 2 ^ 52 + dnN (upN (ffr 10 y) k) 1024 * 2 ^ 42)) :=
        Lib.hid fun k a b c => by
          rw [upN_eq, show (1024 : Nat) = 2 ^ 10 by decide] at a
          rw [upN_eq, show (2048 : Nat) = 2 ^ (10 + 1) by decide] at b
          rw [dnN_eq, dnN_eq, upN_eq, show (1024 : Nat) = 2 ^ 10 by decide, show (1009 : Nat) = 1024 - (2 ^ (5 - 1) - 1) by decide, show (42 : Nat) = 52 - 10 by decide]
          exact widen_low .half (by decide) hy hB k a b c
      have hz0 : (0 : Int) < (ffr 10 y : Nat) := by omega
      clear hA hf hn hsm hy hA0 hB
      generalize hsz : (fsg 5 10 y : Int) = s at HN ⊢
      generalize hfz : ((ffr 10 y : Nat) : Int) = f at HN hz0 ⊢
      clear hsz hfz
      go_enter Tryz.func166, Tryz.ntmps166
      go_wp2_with fail
      have b0 : Blk ((w.alloc (.cells (parts s 0 f) 116)).alloc (.cells (parts 0 0 0) 116)) w.heap.size 116 (parts s 0 f) := (Blk.fresh _ _ _).alloc _
      have b1 : Blk ((w.alloc (.cells (parts s 0 f) 116)).alloc (.cells (parts 0 0 0) 116)) (w.heap.size + 1) 116 (parts 0 0 0) := Blk.freshAt _ _ _ _ (by simp)
      have S : Below w.heap.size w ((w.alloc (.cells (parts s 0 f) 116)).alloc (.cells (parts 0 0 0) 116)) := ((Below.refl _ _).alloc (Nat.le_refl _) _).alloc (by simp) _
      unfold parts at b0 b1 S
      generalize (w.alloc (.cells #[.int .u64 s, .int .i64 0, .int .u64 f] 116)).alloc (.cells #[.int .u64 0, .int .i64 0, .int .u64 0] 116) = w1 at *
      generalize hgg : w.heap.size = g at *
      obtain ⟨c0, c1, c2, fz⟩ := pblk b0
      have f0 := fz 0
      have f1 := fz 1
      have f2 := fz 2
      have B0 := Lib.hid b0
      have B1 := Lib.hid b1
      have HS := Lib.hid S
      clear fz b0 b1 S
      go_quiet (with_reducible exact Calls.quiet_of_same ((h1.out _).mono (fun _ _ h => ⟨h.1, h.2.symm⟩)))
      have B0 := Lib.hid (show Blk (w1.drewN nq) g 116 (parts s 0 f) from B0.out.drewN nq)
      have B1 := Lib.hid (show Blk (w1.drewN nq) (g + 1) 116 (parts 0 0 0) from B1.out.drewN nq)
      have HS := Lib.hid (show Below g w (w1.drewN nq) from below_drawnN HS.out nq)
      clear c0 c1 c2 f0 f1 f2
      generalize w1.drewN nq = wd at *
      obtain ⟨c0, c1, c2, fz⟩ := pblk B0.out
      have f0 := fz 0
      have f1 := fz 1
      have f2 := fz 2
      clear fz
      go_wp2_with fail
      refine (HN.out _).mono ?_
      rintro r w' ⟨k, k1, k2, k3, rfl, kb⟩
      have HW := Lib.hid (HWk.out k k2 k3 k1)
      have HS := Lib.hid (show Below g w w' from HS.out.trans (kb.mono (Nat.le_of_lt B0.out.lt)))
      have B0 := Lib.hid (show Blk w' g 116 (parts s 0 f) from B0.out.on kb)
      have B1 := Lib.hid (show Blk w' (g + 1) 116 (parts 0 0 0) from B1.out.on kb)
      have q3 : ((dnN (upN (ffr 10 y) k) 1024 : Nat) : Int) < 1024 := by rw [dnN_eq]; omega
      have q2 : 0 ≤ ((dnN (upN (ffr 10 y) k) 1024 : Nat) : Int) := by omega
      have HE3 : Hid (dnN 1009 k < 2 ^ 11) := Lib.hid (by rw [dnN_eq]; omega)
      have HF3 : Hid (dnN (upN (ffr 10 y) k) 1024 * 2 ^ 42 < 2 ^ 52) := Lib.hid (by omega)
      generalize hez : ((dnN 1009 k : Nat) : Int) = ez
      generalize hfz : ((dnN (upN (ffr 10 y) k) 1024 : Nat) : Int) = v at q2 q3 ⊢
      have HEZ := Lib.hid hez
      have HFZ := Lib.hid hfz
      clear hez hfz k1 k2 k3 kb c0 c1 c2 f0 f1 f2 HN
      obtain ⟨c0, c1, c2, fz⟩ := pblk B0.out
      have f0 := fz 0
      have f1 := fz 1
      have f2 := fz 2
      clear fz
      go_wp2_with fail
      have B0 := Lib.hid (show Blk (((w'.setCell ⟨g, 0, none⟩ (.int .u64 s)).setCell ⟨g, 1, none⟩ (.int .i64 ez)).setCell ⟨g, 2, none⟩ (.int .u64 v)) g 116 (parts s ez v) from ((B0.out.put 0 _).put 1 _).put 2 _)
      have B1 := Lib.hid (show Blk (((w'.setCell ⟨g, 0, none⟩ (.int .u64 s)).setCell ⟨g, 1, none⟩ (.int .i64 ez)).setCell ⟨g, 2, none⟩ (.int .u64 v)) (g + 1) 116 (parts 0 0 0) from ((B1.out.far (p := ⟨g, 0, none⟩) (Nat.succ_ne_self g) _).far (p := ⟨g, 1, none⟩) (Nat.succ_ne_self g) _).far (p := ⟨g, 2, none⟩) (Nat.succ_ne_self g) _)
      have HS := Lib.hid (show Below g w (((w'.setCell ⟨g, 0, none⟩ (.int .u64 s)).setCell ⟨g, 1, none⟩ (.int .i64 ez)).setCell ⟨g, 2, none⟩ (.int .u64 v)) from ((HS.out.setCell (Nat.le_refl _) _).setCell (Nat.le_refl _) _).setCell (Nat.le_refl _) _)
      clear c0 c1 c2 f0 f1 f2
      generalize ((w'.setCell ⟨g, 0, none⟩ (.int .u64 s)).setCell ⟨g, 1, none⟩ (.int .i64 ez)).setCell ⟨g, 2, none⟩ (.int .u64 v) = wd at *
      obtain ⟨c0, c1, c2, fz⟩ := pblk B0.out
      have f0 := fz 0
      have f1 := fz 1
      have f2 := fz 2
      clear fz
      have q4 : IntKind.u64.wrap (v * 4398046511104) = v * 4398046511104 := by rw [IntKind.wrap_u64]; omega
      obtain ⟨d0, d1, d2, dz⟩ := pblk B1.out
      have g0 := dz 0
      have g1 := dz 1
      have g2 := dz 2
      clear dz
      have q1 : IntKind.i64.wrap 42 = 42 := rfl
      refine wp_region_still_tail 8 (by kernel_rfl) (by kernel_rfl) ?_
      simp only [List.take_succ_cons, List.take_zero, List.drop_succ_cons, List.drop_zero]
      repeat still_step
      still_call ((h6.out _).mono (fun _ _ h => ⟨h.1, h.2.symm⟩))
      repeat still_step
      still_call ((h5.out _).mono (fun _ _ h => ⟨h.1, h.2.symm⟩))
      repeat still_step
      refine wpStill_nil ?_
      clear q1
      try clear q2 q3 q4
      as_aux_lemma =>
        go_wp2
        refine bodyPost_ret (results_blk rfl _ rfl (((((B1.out.drew.far (Nat.succ_ne_self g) _).put 0 _).put 1 _).put 2 _)) Tryz.underlying116 rfl size_parts) rfl ?_
        have HF := below_drawn ((((HS.out.setCell (p := ⟨g, 2, none⟩) (Nat.le_refl _) (.int .u64 (v * 4398046511104))).setCell (p := ⟨g + 1, 0, none⟩) (Nat.le_succ g) (.int .u64 s)).setCell (p := ⟨g + 1, 1, none⟩) (Nat.le_succ g) (.int .i64 ez)).setCell (p := ⟨g + 1, 2, none⟩) (Nat.le_succ g) (.int .u64 (v * 4398046511104)))
        have e1 : v * 4398046511104 = ((dnN (upN (ffr 10 y) k) 1024 * 2 ^ 42 : Nat) : Int) := by rw [← HFZ.out]; simp
        exact ⟨dnN 1009 k, dnN (upN (ffr 10 y) k) 1024 * 2 ^ 42, by rw [HEZ.out, ← e1]; rfl, HE3.out, HF3.out, HW.out, by rw [hgg]; exact HF⟩
  · have HW : Hid (Wide 5 10 1050 y (fsg 5 10 y * 2 ^ (11 + 52) + (fex 5 10 y + 1008) * 2 ^ 52 + ffr 10 y * 2 ^ 42)) := Lib.hid (widen_normal .half hy (by omega) (by omega))
    have q0 : (0 : Int) < (fex 5 10 y : Nat) := by omega
    have q1 : ((fex 5 10 y : Nat) : Int) < 31 := by omega
    have q2 : (0 : Int) ≤ (ffr 10 y : Nat) := by omega
    have q3 : ((ffr 10 y : Nat) : Int) < 1024 := by omega
    have HE3 : Hid (fex 5 10 y + 1008 < 2 ^ 11) := Lib.hid (by omega)
    have HF3 : Hid (ffr 10 y * 2 ^ 42 < 2 ^ 52) := Lib.hid (by omega)
    clear hA hB hn hsm hy
    generalize hsz : (fsg 5 10 y : Int) = s
    generalize hez : ((fex 5 10 y : Nat) : Int) = ez at q0 q1 ⊢
    generalize hfz : ((ffr 10 y : Nat) : Int) = v at q2 q3 ⊢
    have HEZ := Lib.hid hez
    have HFZ := Lib.hid hfz
    clear hsz hez hfz
    have n1 : (ez == (31 : Int)) = false := by simp; omega
    have n2 : (ez == (31 : Int)) = false := n1
    have q4 : IntKind.u64.wrap (v * 4398046511104) = v * 4398046511104 := by rw [IntKind.wrap_u64]; omega
    have q5 : IntKind.i64.wrap (ez + 1008) = ez + 1008 := by rw [IntWalk.i64_in _ (by omega)]
    have q6 : IntKind.i64.wrap 1008 = 1008 := rfl
    go_enter Tryz.func166, Tryz.ntmps166
    go_wp2_with fail
    have b0 : Blk ((w.alloc (.cells (parts s ez v) 116)).alloc (.cells (parts 0 0 0) 116)) w.heap.size 116 (parts s ez v) := (Blk.fresh _ _ _).alloc _
    have b1 : Blk ((w.alloc (.cells (parts s ez v) 116)).alloc (.cells (parts 0 0 0) 116)) (w.heap.size + 1) 116 (parts 0 0 0) := Blk.freshAt _ _ _ _ (by simp)
    have S : Below w.heap.size w ((w.alloc (.cells (parts s ez v) 116)).alloc (.cells (parts 0 0 0) 116)) := ((Below.refl _ _).alloc (Nat.le_refl _) _).alloc (by simp) _
    unfold parts at b0 b1 S
    generalize (w.alloc (.cells #[.int .u64 s, .int .i64 ez, .int .u64 v] 116)).alloc (.cells #[.int .u64 0, .int .i64 0, .int .u64 0] 116) = w1 at *
    generalize hgg : w.heap.size = g at *
    obtain ⟨c0, c1, c2, fz⟩ := pblk b0
    have f0 := fz 0
    have f1 := fz 1
    have f2 := fz 2
    have B0 := Lib.hid b0
    have B1 := Lib.hid b1
    have HS := Lib.hid S
    clear fz b0 b1 S
    go_quiet (with_reducible exact Calls.quiet_of_same ((h1.out _).mono (fun _ _ h => ⟨h.1, h.2.symm⟩)))
    have B0 := Lib.hid (show Blk (w1.drewN nq) g 116 (parts s ez v) from B0.out.drewN nq)
    have B1 := Lib.hid (show Blk (w1.drewN nq) (g + 1) 116 (parts 0 0 0) from B1.out.drewN nq)
    have HS := Lib.hid (show Below g w (w1.drewN nq) from below_drawnN HS.out nq)
    clear c0 c1 c2 f0 f1 f2
    generalize w1.drewN nq = wd at *
    obtain ⟨c0, c1, c2, fz⟩ := pblk B0.out
    have f0 := fz 0
    have f1 := fz 1
    have f2 := fz 2
    clear fz
    go_wp2_with fail
    refine wp_region_still_tail 8 (by kernel_rfl) (by kernel_rfl) ?_
    simp only [List.take_succ_cons, List.take_zero, List.drop_succ_cons, List.drop_zero]
    repeat still_step
    still_call ((h4.out _).mono (fun _ _ h => ⟨h.1, h.2.symm⟩))
    repeat still_step
    still_call ((h3.out _).mono (fun _ _ h => ⟨h.1, h.2.symm⟩))
    repeat still_step
    refine wpStill_nil ?_
    go_wp2_with fail
    have B0 := Lib.hid (show Blk ((wd.setCell ⟨g, 1, none⟩ (.int .i64 (ez + 1008))).drew) g 116 (parts s (ez + 1008) v) from (B0.out.put 1 _).drew)
    have B1 := Lib.hid (show Blk ((wd.setCell ⟨g, 1, none⟩ (.int .i64 (ez + 1008))).drew) (g + 1) 116 (parts 0 0 0) from (B1.out.far (p := ⟨g, 1, none⟩) (Nat.succ_ne_self g) _).drew)
    have HS := Lib.hid (show Below g w ((wd.setCell ⟨g, 1, none⟩ (.int .i64 (ez + 1008))).drew) from below_drawn (HS.out.setCell (Nat.le_refl _) _))
    clear c0 c1 c2 f0 f1 f2
    generalize (wd.setCell ⟨g, 1, none⟩ (.int .i64 (ez + 1008))).drew = wd at *
    obtain ⟨c0, c1, c2, fz⟩ := pblk B0.out
    have f0 := fz 0
    have f1 := fz 1
    have f2 := fz 2
    clear fz
    obtain ⟨d0, d1, d2, dz⟩ := pblk B1.out
    have g0 := dz 0
    have g1 := dz 1
    have g2 := dz 2
    clear dz
    have q1 : IntKind.i64.wrap 42 = 42 := rfl
    refine wp_region_still_tail 8 (by kernel_rfl) (by kernel_rfl) ?_
    simp only [List.take_succ_cons, List.take_zero, List.drop_succ_cons, List.drop_zero]
    repeat still_step
    still_call ((h6.out _).mono (fun _ _ h => ⟨h.1, h.2.symm⟩))
    repeat still_step
    still_call ((h5.out _).mono (fun _ _ h => ⟨h.1, h.2.symm⟩))
    repeat still_step
    refine wpStill_nil ?_
    clear q1
    try clear q2 q3 q4
    as_aux_lemma =>
      go_wp2
      refine bodyPost_ret (results_blk rfl _ rfl (((((B1.out.drew.far (Nat.succ_ne_self g) _).put 0 _).put 1 _).put 2 _)) Tryz.underlying116 rfl size_parts) rfl ?_
      have HF := below_drawn ((((HS.out.setCell (p := ⟨g, 2, none⟩) (Nat.le_refl _) (.int .u64 (v * 4398046511104))).setCell (p := ⟨g + 1, 0, none⟩) (Nat.le_succ g) (.int .u64 s)).setCell (p := ⟨g + 1, 1, none⟩) (Nat.le_succ g) (.int .i64 (ez + 1008))).setCell (p := ⟨g + 1, 2, none⟩) (Nat.le_succ g) (.int .u64 (v * 4398046511104)))
      have e1 : v * 4398046511104 = ((ffr 10 y * 2 ^ 42 : Nat) : Int) := by rw [← HFZ.out]; simp
      have e2 : ez + 1008 = ((fex 5 10 y + 1008 : Nat) : Int) := by rw [← HEZ.out]; simp
      exact ⟨fex 5 10 y + 1008, ffr 10 y * 2 ^ 42, by rw [← e1, ← e2]; rfl, HE3.out, HF3.out, HW.out, by rw [hgg]; exact HF⟩
set_option maxRecDepth 100000 in
set_option maxHeartbeats 2000000 in
theorem float_widened_single (y : Nat) (hy : y < 2 ^ (1 + 8 + 23)) (hn : ¬ FNan 8 23 y) (w : World) :
    Calls Tryz.prog 166 #[.agg (parts (fsg 8 23 y) (fex 8 23 y) (ffr 23 y)), .int .i64 4] w fun r w' => ∃ e' f' : Nat, r = .returned (.agg (parts (fsg 8 23 y) e' f')) ∧
      e' < 2 ^ 11 ∧ f' < 2 ^ 52 ∧ Wide 8 23 925 y (fsg 8 23 y * 2 ^ (11 + 52) + e' * 2 ^ 52 + f') ∧ Below w.heap.size w w' := by
  have h1 := Lib.hid (float_most .single)
  have h2 := Lib.hid (float_most .double)
  have h3 := Lib.hid (float_bias .single)
  have h4 := Lib.hid (float_bias .double)
  have h5 := Lib.hid (float_fb .single)
  have h6 := Lib.hid (float_fb .double)
  have hsm := f_small .single y
  unfold parts
  by_cases hA : fex 8 23 y = 2 ^ 8 - 1
  · have hf : ffr 23 y = 0 := Decidable.byContradiction fun h => hn ⟨hA, h⟩
    have HW : Hid (Wide 8 23 925 y (fsg 8 23 y * 2 ^ (11 + 52) + 2047 * 2 ^ 52 + 0)) := Lib.hid (by
      have := widen_inf .single hy hA hf
      unfold finf at this
      rw [Nat.add_zero]
      exact this)
    rw [hA, hf, show ((2 ^ 8 - 1 : Nat) : Int) = 255 from rfl, show ((0 : Nat) : Int) = 0 from rfl]
    clear hA hf hn hsm hy
    generalize hsz : (fsg 8 23 y : Int) = s
    go_enter Tryz.func166, Tryz.ntmps166
    go_wp2_with fail
    have b0 : Blk ((w.alloc (.cells (parts s 255 0) 116)).alloc (.cells (parts 0 0 0) 116)) w.heap.size 116 (parts s 255 0) := (Blk.fresh _ _ _).alloc _
    have b1 : Blk ((w.alloc (.cells (parts s 255 0) 116)).alloc (.cells (parts 0 0 0) 116)) (w.heap.size + 1) 116 (parts 0 0 0) := Blk.freshAt _ _ _ _ (by simp)
    have S : Below w.heap.size w ((w.alloc (.cells (parts s 255 0) 116)).alloc (.cells (parts 0 0 0) 116)) := ((Below.refl _ _).alloc (Nat.le_refl _) _).alloc (by simp) _
    unfold parts at b0 b1 S
    generalize (w.alloc (.cells #[.int .u64 s, .int .i64 255, .int .u64 0] 116)).alloc (.cells #[.int .u64 0, .int .i64 0, .int .u64 0] 116) = w1 at *
    generalize hgg : w.heap.size = g at *
    obtain ⟨c0, c1, c2, fz⟩ := pblk b0
    have f0 := fz 0
    have f1 := fz 1
    have f2 := fz 2
    have B0 := Lib.hid b0
    have B1 := Lib.hid b1
    have HS := Lib.hid S
    clear fz b0 b1 S
    go_quiet (with_reducible exact Calls.quiet_of_same ((h1.out _).mono (fun _ _ h => ⟨h.1, h.2.symm⟩)))
    have B0 := Lib.hid (show Blk (w1.drewN nq) g 116 (parts s 255 0) from B0.out.drewN nq)
    have B1 := Lib.hid (show Blk (w1.drewN nq) (g + 1) 116 (parts 0 0 0) from B1.out.drewN nq)
    have HS := Lib.hid (show Below g w (w1.drewN nq) from below_drawnN HS.out nq)
    clear c0 c1 c2 f0 f1 f2
    generalize w1.drewN nq = wd at *
    obtain ⟨c0, c1, c2, fz⟩ := pblk B0.out
    have f0 := fz 0
    have f1 := fz 1
    have f2 := fz 2
    clear fz
    go_wp2_with (go_at_call 101; refine (h2.out _).mono ?_; rintro e w' ⟨rfl, rfl⟩)
    have B0 := Lib.hid (show Blk (wd.setCell ⟨g, 1, none⟩ (.int .i64 2047)) g 116 (parts s 2047 0) from B0.out.put 1 _)
    have B1 := Lib.hid (show Blk (wd.setCell ⟨g, 1, none⟩ (.int .i64 2047)) (g + 1) 116 (parts 0 0 0) from B1.out.far (p := ⟨g, 1, none⟩) (Nat.succ_ne_self g) _)
    have HS := Lib.hid (show Below g w (wd.setCell ⟨g, 1, none⟩ (.int .i64 2047)) from HS.out.setCell (Nat.le_refl _) _)
    clear c0 c1 c2 f0 f1 f2
    generalize wd.setCell ⟨g, 1, none⟩ (.int .i64 2047) = wd at *
    obtain ⟨c0, c1, c2, fz⟩ := pblk B0.out
    have f0 := fz 0
    have f1 := fz 1
    have f2 := fz 2
    clear fz
    obtain ⟨d0, d1, d2, dz⟩ := pblk B1.out
    have g0 := dz 0
    have g1 := dz 1
    have g2 := dz 2
    clear dz
    have q1 : IntKind.i64.wrap 29 = 29 := rfl
    refine wp_region_still_tail 8 (by kernel_rfl) (by kernel_rfl) ?_
    simp only [List.take_succ_cons, List.take_zero, List.drop_succ_cons, List.drop_zero]
    repeat still_step
    still_call ((h6.out _).mono (fun _ _ h => ⟨h.1, h.2.symm⟩))
    repeat still_step
    still_call ((h5.out _).mono (fun _ _ h => ⟨h.1, h.2.symm⟩))
    repeat still_step
    refine wpStill_nil ?_
    clear q1
    try clear q2 q3 q4
    as_aux_lemma =>
      go_wp2
      refine bodyPost_ret (results_blk rfl _ rfl (((((B1.out.drew.far (Nat.succ_ne_self g) _).put 0 _).put 1 _).put 2 _)) Tryz.underlying116 rfl size_parts) rfl ?_
      have HF := below_drawn ((((HS.out.setCell (p := ⟨g, 2, none⟩) (Nat.le_refl _) (.int .u64 0)).setCell (p := ⟨g + 1, 0, none⟩) (Nat.le_succ g) (.int .u64 s)).setCell (p := ⟨g + 1, 1, none⟩) (Nat.le_succ g) (.int .i64 2047)).setCell (p := ⟨g + 1, 2, none⟩) (Nat.le_succ g) (.int .u64 0))
      exact ⟨2047, 0, rfl, by decide, by decide, HW.out, by rw [hgg]; exact HF⟩
  by_cases hB : fex 8 23 y = 0
  · have hA0 : (((fex 8 23 y : Nat) : Int)) = 0 := by omega
    rw [hA0]
    by_cases hf : ffr 23 y = 0
    · have HW : Hid (Wide 8 23 925 y (fsg 8 23 y * 2 ^ (11 + 52) + 0 * 2 ^ 52 + 0)) := Lib.hid (by
        rw [Nat.zero_mul, Nat.add_zero, Nat.add_zero]
        exact widen_zero .single hy hB hf)
      have hf0 : (((ffr 23 y : Nat) : Int)) = 0 := by omega
      rw [hf0]
      clear hA hf hn hsm hy hA0 hf0 hB
      generalize hsz : (fsg 8 23 y : Int) = s
      go_enter Tryz.func166, Tryz.ntmps166
      go_wp2_with fail
      have b0 : Blk ((w.alloc (.cells (parts s 0 0) 116)).alloc (.cells (parts 0 0 0) 116)) w.heap.size 116 (parts s 0 0) := (Blk.fresh _ _ _).alloc _
      have b1 : Blk ((w.alloc (.cells (parts s 0 0) 116)).alloc (.cells (parts 0 0 0) 116)) (w.heap.size + 1) 116 (parts 0 0 0) := Blk.freshAt _ _ _ _ (by simp)
      have S : Below w.heap.size w ((w.alloc (.cells (parts s 0 0) 116)).alloc (.cells (parts 0 0 0) 116)) := ((Below.refl _ _).alloc (Nat.le_refl _) _).alloc (by simp) _
      unfold parts at b0 b1 S
      generalize (w.alloc (.cells #[.int .u64 s, .int .i64 0, .int .u64 0] 116)).alloc (.cells #[.int .u64 0, .int .i64 0, .int .u64 0] 116) = w1 at *
      generalize hgg : w.heap.size = g at *
      obtain ⟨c0, c1, c2, fz⟩ := pblk b0
      have f0 := fz 0
      have f1 := fz 1
      have f2 := fz 2
      have B0 := Lib.hid b0
      have B1 := Lib.hid b1
      have HS := Lib.hid S
      clear fz b0 b1 S
      go_quiet (with_reducible exact Calls.quiet_of_same ((h1.out _).mono (fun _ _ h => ⟨h.1, h.2.symm⟩)))
      have B0 := Lib.hid (show Blk (w1.drewN nq) g 116 (parts s 0 0) from B0.out.drewN nq)
      have B1 := Lib.hid (show Blk (w1.drewN nq) (g + 1) 116 (parts 0 0 0) from B1.out.drewN nq)
      have HS := Lib.hid (show Below g w (w1.drewN nq) from below_drawnN HS.out nq)
      clear c0 c1 c2 f0 f1 f2
      generalize w1.drewN nq = wd at *
      obtain ⟨c0, c1, c2, fz⟩ := pblk B0.out
      have f0 := fz 0
      have f1 := fz 1
      have f2 := fz 2
      clear fz
      go_wp2_with fail
      obtain ⟨d0, d1, d2, dz⟩ := pblk B1.out
      have g0 := dz 0
      have g1 := dz 1
      have g2 := dz 2
      clear dz
      have q1 : IntKind.i64.wrap 29 = 29 := rfl
      refine wp_region_still_tail 8 (by kernel_rfl) (by kernel_rfl) ?_
      simp only [List.take_succ_cons, List.take_zero, List.drop_succ_cons, List.drop_zero]
      repeat still_step
      still_call ((h6.out _).mono (fun _ _ h => ⟨h.1, h.2.symm⟩))
      repeat still_step
      still_call ((h5.out _).mono (fun _ _ h => ⟨h.1, h.2.symm⟩))
      repeat still_step
      refine wpStill_nil ?_
      clear q1
      try clear q2 q3 q4
      as_aux_lemma =>
        go_wp2
        refine bodyPost_ret (results_blk rfl _ rfl (((((B1.out.drew.far (Nat.succ_ne_self g) _).put 0 _).put 1 _).put 2 _)) Tryz.underlying116 rfl size_parts) rfl ?_
        have HF := below_drawn ((((HS.out.setCell (p := ⟨g, 2, none⟩) (Nat.le_refl _) (.int .u64 0)).setCell (p := ⟨g + 1, 0, none⟩) (Nat.le_succ g) (.int .u64 s)).setCell (p := ⟨g + 1, 1, none⟩) (Nat.le_succ g) (.int .i64 0)).setCell (p := ⟨g + 1, 2, none⟩) (Nat.le_succ g) (.int .u64 0))
        exact ⟨0, 0, rfl, by decide, by decide, HW.out, by rw [hgg]; exact HF⟩
    · have HN := Lib.hid (float_normal_single (fsg 8 23 y) (ffr 23 y) (by omega) hsm.2.2 0)
      unfold parts at HN
      have HWk : Hid (∀ k, 8388608 ≤ upN (ffr 23 y) k → upN (ffr 23 y) k < 16777216 → k ≤ 23 → Wide 8 23 925 y (fsg 8 23 y * 2 ^ (11 + 52) + dnN 897 k * 2 ^ 52 + dnN (upN (ffr 23 y) k) 8388608 * 2 ^ 29)) :=
        Lib.hid fun k a b c => by
          rw [upN_eq, show (8388608 : Nat) = 2 ^ 23 by decide] at a
          rw [upN_eq, show (16777216 : Nat) = 2 ^ (23 + 1) by decide] at b
          rw [dnN_eq, dnN_eq, upN_eq, show (8388608 : Nat) = 2 ^ 23 by decide, show (897 : Nat) = 1024 - (2 ^ (8 - 1) - 1) by decide, show (29 : Nat) = 52 - 23 by decide]
          exact widen_low .single (by decide) hy hB k a b c
      have hz0 : (0 : Int) < (ffr 23 y : Nat) := by omega
      clear hA hf hn hsm hy hA0 hB
      generalize hsz : (fsg 8 23 y : Int) = s at HN ⊢
      generalize hfz : ((ffr 23 y : Nat) : Int) = f at HN hz0 ⊢
      clear hsz hfz
      go_enter Tryz.func166, Tryz.ntmps166
      go_wp2_with fail
      have b0 : Blk ((w.alloc (.cells (parts s 0 f) 116)).alloc (.cells (parts 0 0 0) 116)) w.heap.size 116 (parts s 0 f) := (Blk.fresh _ _ _).alloc _
      have b1 : Blk ((w.alloc (.cells (parts s 0 f) 116)).alloc (.cells (parts 0 0 0) 116)) (w.heap.size + 1) 116 (parts 0 0 0) := Blk.freshAt _ _ _ _ (by simp)
      have S : Below w.heap.size w ((w.alloc (.cells (parts s 0 f) 116)).alloc (.cells (parts 0 0 0) 116)) := ((Below.refl _ _).alloc (Nat.le_refl _) _).alloc (by simp) _
      unfold parts at b0 b1 S
      generalize (w.alloc (.cells #[.int .u64 s, .int .i64 0, .int .u64 f] 116)).alloc (.cells #[.int .u64 0, .int .i64 0, .int .u64 0] 116) = w1 at *
      generalize hgg : w.heap.size = g at *
      obtain ⟨c0, c1, c2, fz⟩ := pblk b0
      have f0 := fz 0
      have f1 := fz 1
      have f2 := fz 2
      have B0 := Lib.hid b0
      have B1 := Lib.hid b1
      have HS := Lib.hid S
      clear fz b0 b1 S
      go_quiet (with_reducible exact Calls.quiet_of_same ((h1.out _).mono (fun _ _ h => ⟨h.1, h.2.symm⟩)))
      have B0 := Lib.hid (show Blk (w1.drewN nq) g 116 (parts s 0 f) from B0.out.drewN nq)
      have B1 := Lib.hid (show Blk (w1.drewN nq) (g + 1) 116 (parts 0 0 0) from B1.out.drewN nq)
      have HS := Lib.hid (show Below g w (w1.drewN nq) from below_drawnN HS.out nq)
      clear c0 c1 c2 f0 f1 f2
      generalize w1.drewN nq = wd at *
      obtain ⟨c0, c1, c2, fz⟩ := pblk B0.out
      have f0 := fz 0
      have f1 := fz 1
      have f2 := fz 2
      clear fz
      go_wp2_with fail
      refine (HN.out _).mono ?_
      rintro r w' ⟨k, k1, k2, k3, rfl, kb⟩
      have HW := Lib.hid (HWk.out k k2 k3 k1)
      have HS := Lib.hid (show Below g w w' from HS.out.trans (kb.mono (Nat.le_of_lt B0.out.lt)))
      have B0 := Lib.hid (show Blk w' g 116 (parts s 0 f) from B0.out.on kb)
      have B1 := Lib.hid (show Blk w' (g + 1) 116 (parts 0 0 0) from B1.out.on kb)
      have q3 : ((dnN (upN (ffr 23 y) k) 8388608 : Nat) : Int) < 8388608 := by rw [dnN_eq]; omega
      have q2 : 0 ≤ ((dnN (upN (ffr 23 y) k) 8388608 : Nat) : Int) := by omega
      have HE3 : Hid (dnN 897 k < 2 ^ 11) := Lib.hid (by rw [dnN_eq]; omega)
      have HF3 : Hid (dnN (upN (ffr 23 y) k) 8388608 * 2 ^ 29 < 2 ^ 52) := Lib.hid (by omega)
      generalize hez : ((dnN 897 k : Nat) : Int) = ez
      generalize hfz : ((dnN (upN (ffr 23 y) k) 8388608 : Nat) : Int) = v at q2 q3 ⊢
      have HEZ := Lib.hid hez
      have HFZ := Lib.hid hfz
      clear hez hfz k1 k2 k3 kb c0 c1 c2 f0 f1 f2 HN
      obtain ⟨c0, c1, c2, fz⟩ := pblk B0.out
      have f0 := fz 0
      have f1 := fz 1
      have f2 := fz 2
      clear fz
      go_wp2_with fail
      have B0 := Lib.hid (show Blk (((w'.setCell ⟨g, 0, none⟩ (.int .u64 s)).setCell ⟨g, 1, none⟩ (.int .i64 ez)).setCell ⟨g, 2, none⟩ (.int .u64 v)) g 116 (parts s ez v) from ((B0.out.put 0 _).put 1 _).put 2 _)
      have B1 := Lib.hid (show Blk (((w'.setCell ⟨g, 0, none⟩ (.int .u64 s)).setCell ⟨g, 1, none⟩ (.int .i64 ez)).setCell ⟨g, 2, none⟩ (.int .u64 v)) (g + 1) 116 (parts 0 0 0) from ((B1.out.far (p := ⟨g, 0, none⟩) (Nat.succ_ne_self g) _).far (p := ⟨g, 1, none⟩) (Nat.succ_ne_self g) _).far (p := ⟨g, 2, none⟩) (Nat.succ_ne_self g) _)
      have HS := Lib.hid (show Below g w (((w'.setCell ⟨g, 0, none⟩ (.int .u64 s)).setCell ⟨g, 1, none⟩ (.int .i64 ez)).setCell ⟨g, 2, none⟩ (.int .u64 v)) from ((HS.out.setCell (Nat.le_refl _) _).setCell (Nat.le_refl _) _).setCell (Nat.le_refl _) _)
      clear c0 c1 c2 f0 f1 f2
      generalize ((w'.setCell ⟨g, 0, none⟩ (.int .u64 s)).setCell ⟨g, 1, none⟩ (.int .i64 ez)).setCell ⟨g, 2, none⟩ (.int .u64 v) = wd at *
      obtain ⟨c0, c1, c2, fz⟩ := pblk B0.out
      have f0 := fz 0
      have f1 := fz 1
      have f2 := fz 2
      clear fz
      have q4 : IntKind.u64.wrap (v * 536870912) = v * 536870912 := by rw [IntKind.wrap_u64]; omega
      obtain ⟨d0, d1, d2, dz⟩ := pblk B1.out
      have g0 := dz 0
      have g1 := dz 1
      have g2 := dz 2
      clear dz
      have q1 : IntKind.i64.wrap 29 = 29 := rfl
      refine wp_region_still_tail 8 (by kernel_rfl) (by kernel_rfl) ?_
      simp only [List.take_succ_cons, List.take_zero, List.drop_succ_cons, List.drop_zero]
      repeat still_step
      still_call ((h6.out _).mono (fun _ _ h => ⟨h.1, h.2.symm⟩))
      repeat still_step
      still_call ((h5.out _).mono (fun _ _ h => ⟨h.1, h.2.symm⟩))
      repeat still_step
      refine wpStill_nil ?_
      clear q1
      try clear q2 q3 q4
      as_aux_lemma =>
        go_wp2
        refine bodyPost_ret (results_blk rfl _ rfl (((((B1.out.drew.far (Nat.succ_ne_self g) _).put 0 _).put 1 _).put 2 _)) Tryz.underlying116 rfl size_parts) rfl ?_
        have HF := below_drawn ((((HS.out.setCell (p := ⟨g, 2, none⟩) (Nat.le_refl _) (.int .u64 (v * 536870912))).setCell (p := ⟨g + 1, 0, none⟩) (Nat.le_succ g) (.int .u64 s)).setCell (p := ⟨g + 1, 1, none⟩) (Nat.le_succ g) (.int .i64 ez)).setCell (p := ⟨g + 1, 2, none⟩) (Nat.le_succ g) (.int .u64 (v * 536870912)))
        have e1 : v * 536870912 = ((dnN (upN (ffr 23 y) k) 8388608 * 2 ^ 29 : Nat) : Int) := by rw [← HFZ.out]; simp
        exact ⟨dnN 897 k, dnN (upN (ffr 23 y) k) 8388608 * 2 ^ 29, by rw [HEZ.out, ← e1]; rfl, HE3.out, HF3.out, HW.out, by rw [hgg]; exact HF⟩
  · have HW : Hid (Wide 8 23 925 y (fsg 8 23 y * 2 ^ (11 + 52) + (fex 8 23 y + 896) * 2 ^ 52 + ffr 23 y * 2 ^ 29)) := Lib.hid (widen_normal .single hy (by omega) (by omega))
    have q0 : (0 : Int) < (fex 8 23 y : Nat) := by omega
    have q1 : ((fex 8 23 y : Nat) : Int) < 255 := by omega
    have q2 : (0 : Int) ≤ (ffr 23 y : Nat) := by omega
    have q3 : ((ffr 23 y : Nat) : Int) < 8388608 := by omega
    have HE3 : Hid (fex 8 23 y + 896 < 2 ^ 11) := Lib.hid (by omega)
    have HF3 : Hid (ffr 23 y * 2 ^ 29 < 2 ^ 52) := Lib.hid (by omega)
    clear hA hB hn hsm hy
    generalize hsz : (fsg 8 23 y : Int) = s
    generalize hez : ((fex 8 23 y : Nat) : Int) = ez at q0 q1 ⊢
    generalize hfz : ((ffr 23 y : Nat) : Int) = v at q2 q3 ⊢
    have HEZ := Lib.hid hez
    have HFZ := Lib.hid hfz
    clear hsz hez hfz
    have n1 : (ez == (255 : Int)) = false := by simp; omega
    have n2 : (ez == (255 : Int)) = false := n1
    have q4 : IntKind.u64.wrap (v * 536870912) = v * 536870912 := by rw [IntKind.wrap_u64]; omega
    have q5 : IntKind.i64.wrap (ez + 896) = ez + 896 := by rw [IntWalk.i64_in _ (by omega)]
    have q6 : IntKind.i64.wrap 896 = 896 := rfl
    go_enter Tryz.func166, Tryz.ntmps166
    go_wp2_with fail
    have b0 : Blk ((w.alloc (.cells (parts s ez v) 116)).alloc (.cells (parts 0 0 0) 116)) w.heap.size 116 (parts s ez v) := (Blk.fresh _ _ _).alloc _
    have b1 : Blk ((w.alloc (.cells (parts s ez v) 116)).alloc (.cells (parts 0 0 0) 116)) (w.heap.size + 1) 116 (parts 0 0 0) := Blk.freshAt _ _ _ _ (by simp)
    have S : Below w.heap.size w ((w.alloc (.cells (parts s ez v) 116)).alloc (.cells (parts 0 0 0) 116)) := ((Below.refl _ _).alloc (Nat.le_refl _) _).alloc (by simp) _
    unfold parts at b0 b1 S
    generalize (w.alloc (.cells #[.int .u64 s, .int .i64 ez, .int .u64 v] 116)).alloc (.cells #[.int .u64 0, .int .i64 0, .int .u64 0] 116) = w1 at *
    generalize hgg : w.heap.size = g at *
    obtain ⟨c0, c1, c2, fz⟩ := pblk b0
    have f0 := fz 0
    have f1 := fz 1
    have f2 := fz 2
    have B0 := Lib.hid b0
    have B1 := Lib.hid b1
    have HS := Lib.hid S
    clear fz b0 b1 S
    go_quiet (with_reducible exact Calls.quiet_of_same ((h1.out _).mono (fun _ _ h => ⟨h.1, h.2.symm⟩)))
    have B0 := Lib.hid (show Blk (w1.drewN nq) g 116 (parts s ez v) from B0.out.drewN nq)
    have B1 := Lib.hid (show Blk (w1.drewN nq) (g + 1) 116 (parts 0 0 0) from B1.out.drewN nq)
    have HS := Lib.hid (show Below g w (w1.drewN nq) from below_drawnN HS.out nq)
    clear c0 c1 c2 f0 f1 f2
    generalize w1.drewN nq = wd at *
    obtain ⟨c0, c1, c2, fz⟩ := pblk B0.out
    have f0 := fz 0
    have f1 := fz 1
    have f2 := fz 2
    clear fz
    go_wp2_with fail
    refine wp_region_still_tail 8 (by kernel_rfl) (by kernel_rfl) ?_
    simp only [List.take_succ_cons, List.take_zero, List.drop_succ_cons, List.drop_zero]
    repeat still_step
    still_call ((h4.out _).mono (fun _ _ h => ⟨h.1, h.2.symm⟩))
    repeat still_step
    still_call ((h3.out _).mono (fun _ _ h => ⟨h.1, h.2.symm⟩))
    repeat still_step
    refine wpStill_nil ?_
    go_wp2_with fail
    have B0 := Lib.hid (show Blk ((wd.setCell ⟨g, 1, none⟩ (.int .i64 (ez + 896))).drew) g 116 (parts s (ez + 896) v) from (B0.out.put 1 _).drew)
    have B1 := Lib.hid (show Blk ((wd.setCell ⟨g, 1, none⟩ (.int .i64 (ez + 896))).drew) (g + 1) 116 (parts 0 0 0) from (B1.out.far (p := ⟨g, 1, none⟩) (Nat.succ_ne_self g) _).drew)
    have HS := Lib.hid (show Below g w ((wd.setCell ⟨g, 1, none⟩ (.int .i64 (ez + 896))).drew) from below_drawn (HS.out.setCell (Nat.le_refl _) _))
    clear c0 c1 c2 f0 f1 f2
    generalize (wd.setCell ⟨g, 1, none⟩ (.int .i64 (ez + 896))).drew = wd at *
    obtain ⟨c0, c1, c2, fz⟩ := pblk B0.out
    have f0 := fz 0
    have f1 := fz 1
    have f2 := fz 2
    clear fz
    obtain ⟨d0, d1, d2, dz⟩ := pblk B1.out
    have g0 := dz 0
    have g1 := dz 1
    have g2 := dz 2
    clear dz
    have q1 : IntKind.i64.wrap 29 = 29 := rfl
    refine wp_region_still_tail 8 (by kernel_rfl) (by kernel_rfl) ?_
    simp only [List.take_succ_cons, List.take_zero, List.drop_succ_cons, List.drop_zero]
    repeat still_step
    still_call ((h6.out _).mono (fun _ _ h => ⟨h.1, h.2.symm⟩))
    repeat still_step
    still_call ((h5.out _).mono (fun _ _ h => ⟨h.1, h.2.symm⟩))
    repeat still_step
    refine wpStill_nil ?_
    clear q1
    try clear q2 q3 q4
    as_aux_lemma =>
      go_wp2
      refine bodyPost_ret (results_blk rfl _ rfl (((((B1.out.drew.far (Nat.succ_ne_self g) _).put 0 _).put 1 _).put 2 _)) Tryz.underlying116 rfl size_parts) rfl ?_
      have HF := below_drawn ((((HS.out.setCell (p := ⟨g, 2, none⟩) (Nat.le_refl _) (.int .u64 (v * 536870912))).setCell (p := ⟨g + 1, 0, none⟩) (Nat.le_succ g) (.int .u64 s)).setCell (p := ⟨g + 1, 1, none⟩) (Nat.le_succ g) (.int .i64 (ez + 896))).setCell (p := ⟨g + 1, 2, none⟩) (Nat.le_succ g) (.int .u64 (v * 536870912)))
      have e1 : v * 536870912 = ((ffr 23 y * 2 ^ 29 : Nat) : Int) := by rw [← HFZ.out]; simp
      have e2 : ez + 896 = ((fex 8 23 y + 896 : Nat) : Int) := by rw [← HEZ.out]; simp
      exact ⟨fex 8 23 y + 896, ffr 23 y * 2 ^ 29, by rw [← e1, ← e2]; rfl, HE3.out, HF3.out, HW.out, by rw [hgg]; exact HF⟩
end Go.Proofs.YtjelgoeamaejmaaGreat
