/- The document's float: value. -/
import Derived.Test.YtchhbcmkhbfpoaaKAE
import Derived.RegionTactic
namespace Go.Proofs.Ytchhbcmkhbfpoaa
open Go.RowKit
theorem results_tmp4 {fn : Func} {t u v x : Tmp} (h : fn.results = #[.tmp t, .tmp u, .tmp v, .tmp x]) (tmps : Array Value) (P : Program) (w : World) :
    (results fn tmps).run P w = .ok (.tuple #[tmps.getD t undef, tmps.getD u undef, tmps.getD v undef, tmps.getD x undef]) w := by
  simp [results, h]
theorem ret_four {a b c d a' b' c' d' : Value} (h1 : a = a') (h2 : b = b') (h3 : c = c') (h4 : d = d') : Ending.returned (.tuple #[a, b, c, d]) = .returned (.tuple #[a', b', c', d']) := by rw [h1, h2, h3, h4]
theorem val_num {k : IntKind} {a b : Int} (h : a = b) : Value.int k a = Value.int k b := by rw [h]
/-- M, halved j times, is m. -/
def Halved (M j m : Nat) : Prop := M = m * 2 ^ j
theorem halved_step {M j m : Nat} (h : Halved M j m) (h2 : m % 2 = 0) : Halved M (j + 1) (m / 2) := by
  unfold Halved at *
  rw [Nat.pow_succ, Nat.mul_comm (2 ^ j), ← Nat.mul_assoc, Nat.div_mul_cancel (Nat.dvd_of_mod_eq_zero h2)]
  exact h
theorem halved_small {M j m B : Nat} (h : Halved M j m) (h0 : 0 < m) (hM : M < 2 ^ B) : j < B := by
  unfold Halved at h
  have := Nat.mul_le_mul_right (2 ^ j) h0
  exact (Nat.pow_lt_pow_iff_right (by decide)).1 (show 2 ^ j < 2 ^ B by omega)
theorem halved_le {M j m : Nat} (h : Halved M j m) : m ≤ M := by
  unfold Halved at h
  have := Nat.mul_le_mul_left m (Nat.two_pow_pos j)
  omega
theorem halved_value {E F O x j m : Nat} (h : Halved (fnum E F x) j m) : fval E F O x = m * 2 ^ (fpow E F O x + j) := by
  unfold Halved at h
  unfold fval
  rw [h, Nat.mul_assoc, ← Nat.pow_add, Nat.add_comm j]
set_option maxHeartbeats 2000000 in
theorem ref_value_half (x : Nat) (hx : x < 2 ^ (1 + 5 + 10)) (w : World) :
    Calls Try.prog 44 #[.int .u64 x, .int .i64 5, .int .i64 10] w fun e w' => ∃ (s m q k : Nat) (p : Int), e = .returned (.tuple #[.int .u64 s, .int .u64 m, .int .i64 p, .int .i64 k]) ∧
      ValueTo 5 10 1050 x s m q k ∧ s < 2 ∧ m < 2 ^ (10 + 1) ∧ q ≤ 3000 ∧ (k = 0 → m ≠ 0 → p = q - 1074) ∧ Below w.heap.size w w' := by
  have hsm := f_small .half x
  have x0 : (0 : Int) ≤ x := by omega
  have x1 : (x : Int) < 18446744073709551616 := by omega
  have a1 : (x : Int) / 32768 % 2 = (fsg 5 10 x : Nat) := by unfold fsg; omega
  have a2 : (x : Int) / 1024 % 32 = (fex 5 10 x : Nat) := by unfold fex; omega
  have a3 : (x : Int) % 1024 = (ffr 10 x : Nat) := by unfold ffr; omega
  by_cases hA : fex 5 10 x = 31
  · by_cases hf : ffr 10 x = 0
    · have HV : Hid (ValueTo 5 10 1050 x (fsg 5 10 x) 0 0 1) := Lib.hid (Or.inr (Or.inl ⟨rfl, hA, hf, rfl, rfl⟩))
      have HS := Lib.hid hsm.1
      have a2' : (x : Int) / 1024 % 32 = 31 := by omega
      have a3' : (x : Int) % 1024 = 0 := by omega
      clear a2 a3
      generalize hs : ((fsg 5 10 x : Nat) : Int) = s at *
      generalize (x : Int) = z at *
      have HZ := Lib.hid hs
      clear hA hf hsm hx hs
      go_enter Try.func44, Try.ntmps44
      go_wp2_with fail
      go_quiet (fail)
      go_wp2_with fail
      refine bodyPost_ret (results_tmp4 rfl _ _ _) rfl ?_
      exact ⟨fsg 5 10 x, 0, 0, 1, 0, ret_four (val_num (a1.trans HZ.out.symm)) rfl rfl rfl, HV.out, HS.out, by decide, by decide, by omega, below_drawnN (Below.refl _ _) _⟩
    · have HV : Hid (ValueTo 5 10 1050 x 0 0 0 2) := Lib.hid (Or.inl ⟨rfl, ⟨hA, hf⟩, rfl⟩)
      have a2' : (x : Int) / 1024 % 32 = 31 := by omega
      have a3' : ((x : Int) % 1024 != 0) = true := by simp; omega
      clear a2 a3 a1
      generalize (x : Int) = z at *
      clear hA hf hsm hx
      go_enter Try.func44, Try.ntmps44
      go_wp2_with fail
      go_quiet (fail)
      go_wp2_with fail
      refine bodyPost_ret (results_tmp4 rfl _ _ _) rfl ?_
      exact ⟨0, 0, 0, 2, 0, rfl, HV.out, by decide, by decide, by decide, by omega, below_drawnN (Below.refl _ _) _⟩
  · have hfin : fex 5 10 x < 2 ^ 5 - 1 := by omega
    have HFI := Lib.hid (fun _ : Unit => hfin)
    have HS := Lib.hid hsm.1
    have HNB := Lib.hid (fun _ : Unit => (f_nf .half x).2.1)
    have HPO : Hid (Unit → fpow 5 10 1050 x ≤ 2900) := Lib.hid (fun _ => by unfold fpow; omega)
    by_cases he : fex 5 10 x = 0
    · have a2' : (x : Int) / 1024 % 32 = 0 := by omega
      by_cases hf : ffr 10 x = 0
      · have HV : Hid (ValueTo 5 10 1050 x (fsg 5 10 x) 0 0 0) := Lib.hid (Or.inr (Or.inr ⟨rfl, hfin, rfl, Or.inl ⟨rfl, by unfold fval fnum; rw [if_pos he, hf, Nat.zero_mul]⟩⟩))
        have a3' : (x : Int) % 1024 = 0 := by omega
        clear a2 a3
        generalize hs : ((fsg 5 10 x : Nat) : Int) = s at *
        have HZ := Lib.hid hs
        generalize (x : Int) = z at *
        clear hA hf hsm hx he hfin hs
        go_enter Try.func44, Try.ntmps44
        go_wp2_with fail
        go_quiet (fail)
        go_wp2_with fail
        refine bodyPost_ret (results_tmp4 rfl _ _ _) rfl ?_
        exact ⟨fsg 5 10 x, 0, 0, 0, 0, ret_four (val_num (a1.trans HZ.out.symm)) rfl rfl rfl, HV.out, HS.out, by decide, by decide, fun _ h => absurd rfl h, below_drawnN (Below.refl _ _) _⟩
      have hn : fnum 5 10 x = ffr 10 x := by unfold fnum; rw [if_pos he]
      have HN0 : Hid (0 < fnum 5 10 x) := Lib.hid (by omega)
      have a3' : (x : Int) % 1024 = (fnum 5 10 x : Nat) := by rw [hn]; exact a3
      have a4 : (((fnum 5 10 x : Nat) : Int) == 0) = false := by simp; omega
      have HP0 : Hid (Unit → (-24 : Int) = (fpow 5 10 1050 x : Int) - 1074) := Lib.hid (fun _ => by unfold fpow; omega)
      clear a2 a3 hn
      generalize hs : ((fsg 5 10 x : Nat) : Int) = s at *
      have HZ := Lib.hid hs
      generalize hfn : ((fnum 5 10 x : Nat) : Int) = fn at *
      have HFN := Lib.hid hfn
      generalize (x : Int) = z at *
      clear hA hf hsm hx he hfin hs hfn
      go_enter Try.func44, Try.ntmps44
      go_wp2_with fail
      go_quiet (fail)
      go_wp2_with fail
      rw [a3', a1]
      obtain ⟨p0, hp0⟩ : ∃ p0 : Int, -24 = p0 := ⟨_, rfl⟩
      rw [hp0] at HP0 ⊢
      clear a4 hp0
      go_loop [12, 13] (fun a b => ∃ j mm : Nat, a = .int .u64 mm ∧ b = .int .i64 (p0 + j) ∧ Halved (fnum 5 10 x) j mm ∧ 0 < mm) (fun a _ => (intOf a).toNat)
      case atStart => exact ⟨0, fnum 5 10 x, by rw [← HFN.out], by simp, by unfold Halved; simp, HN0.out⟩
      case round =>
        obtain ⟨j, mm, rfl, rfl, hH, h0⟩ := hrel
        have hj := halved_small hH h0 (HNB.out ())
        have HL := Lib.hid (fun _ : Unit => Nat.lt_of_le_of_lt (halved_le hH) (HNB.out ()))
        have HJ := Lib.hid (fun _ : Unit => hj)
        have m0 : (0 : Int) < mm := by omega
        have m1 : (mm : Int) < 18446744073709551616 := by have := HL.out (); omega
        have j0 : (0 : Int) ≤ j := by omega
        have j1 : (j : Int) < 11 := by omega
        have HH := Lib.hid hH
        clear hH h0 hj
        generalize hm : (mm : Int) = mi at *
        generalize hji : (j : Int) = ji at *
        have HM := Lib.hid hm
        have HI := Lib.hid hji
        clear hm hji
        by_cases hev : mi % 2 = 0
        · go_wp2_with fail
          go_round
          case rel => exact ⟨j + 1, mm / 2, val_num (by rw [← HM.out]; simp), val_num (by have h1 := HP0.out (); have h2 := HPO.out (); have h3 := HJ.out (); rw [← HI.out]; unfold wrap64; omega), halved_step HH.out (by have := HM.out; omega), by have := HM.out; omega⟩
          case measure => simp [intOf]; omega
        · go_wp2_with fail
          refine bodyPost_ret (results_tmp4 rfl _ _ _) rfl ?_
          have ho : mm % 2 = 1 := by have := HM.out; omega
          refine ⟨fsg 5 10 x, mm, fpow 5 10 1050 x + j, 0, p0 + ji, ret_four (val_num HZ.out.symm) (val_num HM.out.symm) rfl rfl, ?_, HS.out, ?_, ?_, ?_, below_drawnN (Below.refl _ _) _⟩
          · exact Or.inr (Or.inr ⟨rfl, HFI.out (), rfl, Or.inr ⟨ho, halved_value HH.out⟩⟩)
          · exact HL.out ()
          · have := HPO.out ()
            have := HJ.out ()
            omega
          · intro _ _
            rw [HP0.out (), ← HI.out]
            omega
    · have hef := hsm.2.1
      have a2' : (0 : Int) < (fex 5 10 x : Nat) := by omega
      have a2'' : ((fex 5 10 x : Nat) : Int) < 31 := by omega
      have hn : fnum 5 10 x = ffr 10 x + 2 ^ 10 := by unfold fnum; rw [if_neg he]
      have HN0 : Hid (0 < fnum 5 10 x) := Lib.hid (by omega)
      have a3' : (x : Int) % 1024 + 1024 = (fnum 5 10 x : Nat) := by omega
      have a4 : (((fnum 5 10 x : Nat) : Int) == 0) = false := by simp; omega
      have HP0 : Hid (Unit → ((fex 5 10 x : Nat) : Int) - 25 = (fpow 5 10 1050 x : Int) - 1074) := Lib.hid (fun _ => by unfold fpow; omega)
      clear a3 hn
      generalize hs : ((fsg 5 10 x : Nat) : Int) = s at *
      have HZ := Lib.hid hs
      generalize hfn : ((fnum 5 10 x : Nat) : Int) = fn at *
      have HFN := Lib.hid hfn
      generalize ((fex 5 10 x : Nat) : Int) = ee at *
      generalize (x : Int) = z at *
      clear hA hsm hx he hfin hs hfn hef
      go_enter Try.func44, Try.ntmps44
      go_wp2_with fail
      go_quiet (fail)
      go_wp2_with fail
      rw [a1]
      obtain ⟨p0, hp0⟩ : ∃ p0 : Int, ee - 15 - 10 = p0 := ⟨_, rfl⟩
      have hp1 : ee - 25 = p0 := by omega
      rw [hp0]
      rw [hp1] at HP0
      clear a4 hp0 hp1 a2' a2'' a2 a3'
      go_loop [12, 13] (fun a b => ∃ j mm : Nat, a = .int .u64 mm ∧ b = .int .i64 (p0 + j) ∧ Halved (fnum 5 10 x) j mm ∧ 0 < mm) (fun a _ => (intOf a).toNat)
      case atStart => exact ⟨0, fnum 5 10 x, by rw [← HFN.out], by simp, by unfold Halved; simp, HN0.out⟩
      case round =>
        obtain ⟨j, mm, rfl, rfl, hH, h0⟩ := hrel
        have hj := halved_small hH h0 (HNB.out ())
        have HL := Lib.hid (fun _ : Unit => Nat.lt_of_le_of_lt (halved_le hH) (HNB.out ()))
        have HJ := Lib.hid (fun _ : Unit => hj)
        have m0 : (0 : Int) < mm := by omega
        have m1 : (mm : Int) < 18446744073709551616 := by have := HL.out (); omega
        have j0 : (0 : Int) ≤ j := by omega
        have j1 : (j : Int) < 11 := by omega
        have HH := Lib.hid hH
        clear hH h0 hj
        generalize hm : (mm : Int) = mi at *
        generalize hji : (j : Int) = ji at *
        have HM := Lib.hid hm
        have HI := Lib.hid hji
        clear hm hji
        by_cases hev : mi % 2 = 0
        · go_wp2_with fail
          go_round
          case rel => exact ⟨j + 1, mm / 2, val_num (by rw [← HM.out]; simp), val_num (by have h1 := HP0.out (); have h2 := HPO.out (); have h3 := HJ.out (); rw [← HI.out]; unfold wrap64; omega), halved_step HH.out (by have := HM.out; omega), by have := HM.out; omega⟩
          case measure => simp [intOf]; omega
        · go_wp2_with fail
          refine bodyPost_ret (results_tmp4 rfl _ _ _) rfl ?_
          have ho : mm % 2 = 1 := by have := HM.out; omega
          refine ⟨fsg 5 10 x, mm, fpow 5 10 1050 x + j, 0, p0 + ji, ret_four (val_num HZ.out.symm) (val_num HM.out.symm) rfl rfl, ?_, HS.out, ?_, ?_, ?_, below_drawnN (Below.refl _ _) _⟩
          · exact Or.inr (Or.inr ⟨rfl, HFI.out (), rfl, Or.inr ⟨ho, halved_value HH.out⟩⟩)
          · exact HL.out ()
          · have := HPO.out ()
            have := HJ.out ()
            omega
          · intro _ _
            rw [HP0.out (), ← HI.out]
            omega
set_option maxHeartbeats 2000000 in
theorem ref_value_single (x : Nat) (hx : x < 2 ^ (1 + 8 + 23)) (w : World) :
    Calls Try.prog 44 #[.int .u64 x, .int .i64 8, .int .i64 23] w fun e w' => ∃ (s m q k : Nat) (p : Int), e = .returned (.tuple #[.int .u64 s, .int .u64 m, .int .i64 p, .int .i64 k]) ∧
      ValueTo 8 23 925 x s m q k ∧ s < 2 ∧ m < 2 ^ (23 + 1) ∧ q ≤ 3000 ∧ (k = 0 → m ≠ 0 → p = q - 1074) ∧ Below w.heap.size w w' := by
  have hsm := f_small .single x
  have x0 : (0 : Int) ≤ x := by omega
  have x1 : (x : Int) < 18446744073709551616 := by omega
  have a1 : (x : Int) / 2147483648 % 2 = (fsg 8 23 x : Nat) := by unfold fsg; omega
  have a2 : (x : Int) / 8388608 % 256 = (fex 8 23 x : Nat) := by unfold fex; omega
  have a3 : (x : Int) % 8388608 = (ffr 23 x : Nat) := by unfold ffr; omega
  by_cases hA : fex 8 23 x = 255
  · by_cases hf : ffr 23 x = 0
    · have HV : Hid (ValueTo 8 23 925 x (fsg 8 23 x) 0 0 1) := Lib.hid (Or.inr (Or.inl ⟨rfl, hA, hf, rfl, rfl⟩))
      have HS := Lib.hid hsm.1
      have a2' : (x : Int) / 8388608 % 256 = 255 := by omega
      have a3' : (x : Int) % 8388608 = 0 := by omega
      clear a2 a3
      generalize hs : ((fsg 8 23 x : Nat) : Int) = s at *
      generalize (x : Int) = z at *
      have HZ := Lib.hid hs
      clear hA hf hsm hx hs
      go_enter Try.func44, Try.ntmps44
      go_wp2_with fail
      go_quiet (fail)
      go_wp2_with fail
      refine bodyPost_ret (results_tmp4 rfl _ _ _) rfl ?_
      exact ⟨fsg 8 23 x, 0, 0, 1, 0, ret_four (val_num (a1.trans HZ.out.symm)) rfl rfl rfl, HV.out, HS.out, by decide, by decide, by omega, below_drawnN (Below.refl _ _) _⟩
    · have HV : Hid (ValueTo 8 23 925 x 0 0 0 2) := Lib.hid (Or.inl ⟨rfl, ⟨hA, hf⟩, rfl⟩)
      have a2' : (x : Int) / 8388608 % 256 = 255 := by omega
      have a3' : ((x : Int) % 8388608 != 0) = true := by simp; omega
      clear a2 a3 a1
      generalize (x : Int) = z at *
      clear hA hf hsm hx
      go_enter Try.func44, Try.ntmps44
      go_wp2_with fail
      go_quiet (fail)
      go_wp2_with fail
      refine bodyPost_ret (results_tmp4 rfl _ _ _) rfl ?_
      exact ⟨0, 0, 0, 2, 0, rfl, HV.out, by decide, by decide, by decide, by omega, below_drawnN (Below.refl _ _) _⟩
  · have hfin : fex 8 23 x < 2 ^ 8 - 1 := by omega
    have HFI := Lib.hid (fun _ : Unit => hfin)
    have HS := Lib.hid hsm.1
    have HNB := Lib.hid (fun _ : Unit => (f_nf .single x).2.1)
    have HPO : Hid (Unit → fpow 8 23 925 x ≤ 2900) := Lib.hid (fun _ => by unfold fpow; omega)
    by_cases he : fex 8 23 x = 0
    · have a2' : (x : Int) / 8388608 % 256 = 0 := by omega
      by_cases hf : ffr 23 x = 0
      · have HV : Hid (ValueTo 8 23 925 x (fsg 8 23 x) 0 0 0) := Lib.hid (Or.inr (Or.inr ⟨rfl, hfin, rfl, Or.inl ⟨rfl, by unfold fval fnum; rw [if_pos he, hf, Nat.zero_mul]⟩⟩))
        have a3' : (x : Int) % 8388608 = 0 := by omega
        clear a2 a3
        generalize hs : ((fsg 8 23 x : Nat) : Int) = s at *
        have HZ := Lib.hid hs
        generalize (x : Int) = z at *
        clear hA hf hsm hx he hfin hs
        go_enter Try.func44, Try.ntmps44
        go_wp2_with fail
        go_quiet (fail)
        go_wp2_with fail
        refine bodyPost_ret (results_tmp4 rfl _ _ _) rfl ?_
        exact ⟨fsg 8 23 x, 0, 0, 0, 0, ret_four (val_num (a1.trans HZ.out.symm)) rfl rfl rfl, HV.out, HS.out, by decide, by decide, fun _ h => absurd rfl h, below_drawnN (Below.refl _ _) _⟩
      have hn : fnum 8 23 x = ffr 23 x := by unfold fnum; rw [if_pos he]
      have HN0 : Hid (0 < fnum 8 23 x) := Lib.hid (by omega)
      have a3' : (x : Int) % 8388608 = (fnum 8 23 x : Nat) := by rw [hn]; exact a3
      have a4 : (((fnum 8 23 x : Nat) : Int) == 0) = false := by simp; omega
      have HP0 : Hid (Unit → (-149 : Int) = (fpow 8 23 925 x : Int) - 1074) := Lib.hid (fun _ => by unfold fpow; omega)
      clear a2 a3 hn
      generalize hs : ((fsg 8 23 x : Nat) : Int) = s at *
      have HZ := Lib.hid hs
      generalize hfn : ((fnum 8 23 x : Nat) : Int) = fn at *
      have HFN := Lib.hid hfn
      generalize (x : Int) = z at *
      clear hA hf hsm hx he hfin hs hfn
      go_enter Try.func44, Try.ntmps44
      go_wp2_with fail
      go_quiet (fail)
      go_wp2_with fail
      rw [a3', a1]
      obtain ⟨p0, hp0⟩ : ∃ p0 : Int, -149 = p0 := ⟨_, rfl⟩
      rw [hp0] at HP0 ⊢
      clear a4 hp0
      go_loop [12, 13] (fun a b => ∃ j mm : Nat, a = .int .u64 mm ∧ b = .int .i64 (p0 + j) ∧ Halved (fnum 8 23 x) j mm ∧ 0 < mm) (fun a _ => (intOf a).toNat)
      case atStart => exact ⟨0, fnum 8 23 x, by rw [← HFN.out], by simp, by unfold Halved; simp, HN0.out⟩
      case round =>
        obtain ⟨j, mm, rfl, rfl, hH, h0⟩ := hrel
        have hj := halved_small hH h0 (HNB.out ())
        have HL := Lib.hid (fun _ : Unit => Nat.lt_of_le_of_lt (halved_le hH) (HNB.out ()))
        have HJ := Lib.hid (fun _ : Unit => hj)
        have m0 : (0 : Int) < mm := by omega
        have m1 : (mm : Int) < 18446744073709551616 := by have := HL.out (); omega
        have j0 : (0 : Int) ≤ j := by omega
        have j1 : (j : Int) < 24 := by omega
        have HH := Lib.hid hH
        clear hH h0 hj
        generalize hm : (mm : Int) = mi at *
        generalize hji : (j : Int) = ji at *
        have HM := Lib.hid hm
        have HI := Lib.hid hji
        clear hm hji
        by_cases hev : mi % 2 = 0
        · go_wp2_with fail
          go_round
          case rel => exact ⟨j + 1, mm / 2, val_num (by rw [← HM.out]; simp), val_num (by have h1 := HP0.out (); have h2 := HPO.out (); have h3 := HJ.out (); rw [← HI.out]; unfold wrap64; omega), halved_step HH.out (by have := HM.out; omega), by have := HM.out; omega⟩
          case measure => simp [intOf]; omega
        · go_wp2_with fail
          refine bodyPost_ret (results_tmp4 rfl _ _ _) rfl ?_
          have ho : mm % 2 = 1 := by have := HM.out; omega
          refine ⟨fsg 8 23 x, mm, fpow 8 23 925 x + j, 0, p0 + ji, ret_four (val_num HZ.out.symm) (val_num HM.out.symm) rfl rfl, ?_, HS.out, ?_, ?_, ?_, below_drawnN (Below.refl _ _) _⟩
          · exact Or.inr (Or.inr ⟨rfl, HFI.out (), rfl, Or.inr ⟨ho, halved_value HH.out⟩⟩)
          · exact HL.out ()
          · have := HPO.out ()
            have := HJ.out ()
            omega
          · intro _ _
            rw [HP0.out (), ← HI.out]
            omega
    · have hef := hsm.2.1
      have a2' : (0 : Int) < (fex 8 23 x : Nat) := by omega
      have a2'' : ((fex 8 23 x : Nat) : Int) < 255 := by omega
      have hn : fnum 8 23 x = ffr 23 x + 2 ^ 23 := by unfold fnum; rw [if_neg he]
      have HN0 : Hid (0 < fnum 8 23 x) := Lib.hid (by omega)
      have a3' : (x : Int) % 8388608 + 8388608 = (fnum 8 23 x : Nat) := by omega
      have a4 : (((fnum 8 23 x : Nat) : Int) == 0) = false := by simp; omega
      have HP0 : Hid (Unit → ((fex 8 23 x : Nat) : Int) - 150 = (fpow 8 23 925 x : Int) - 1074) := Lib.hid (fun _ => by unfold fpow; omega)
      clear a3 hn
      generalize hs : ((fsg 8 23 x : Nat) : Int) = s at *
      have HZ := Lib.hid hs
      generalize hfn : ((fnum 8 23 x : Nat) : Int) = fn at *
      have HFN := Lib.hid hfn
      generalize ((fex 8 23 x : Nat) : Int) = ee at *
      generalize (x : Int) = z at *
      clear hA hsm hx he hfin hs hfn hef
      go_enter Try.func44, Try.ntmps44
      go_wp2_with fail
      go_quiet (fail)
      go_wp2_with fail
      rw [a1]
      obtain ⟨p0, hp0⟩ : ∃ p0 : Int, ee - 127 - 23 = p0 := ⟨_, rfl⟩
      have hp1 : ee - 150 = p0 := by omega
      rw [hp0]
      rw [hp1] at HP0
      clear a4 hp0 hp1 a2' a2'' a2 a3'
      go_loop [12, 13] (fun a b => ∃ j mm : Nat, a = .int .u64 mm ∧ b = .int .i64 (p0 + j) ∧ Halved (fnum 8 23 x) j mm ∧ 0 < mm) (fun a _ => (intOf a).toNat)
      case atStart => exact ⟨0, fnum 8 23 x, by rw [← HFN.out], by simp, by unfold Halved; simp, HN0.out⟩
      case round =>
        obtain ⟨j, mm, rfl, rfl, hH, h0⟩ := hrel
        have hj := halved_small hH h0 (HNB.out ())
        have HL := Lib.hid (fun _ : Unit => Nat.lt_of_le_of_lt (halved_le hH) (HNB.out ()))
        have HJ := Lib.hid (fun _ : Unit => hj)
        have m0 : (0 : Int) < mm := by omega
        have m1 : (mm : Int) < 18446744073709551616 := by have := HL.out (); omega
        have j0 : (0 : Int) ≤ j := by omega
        have j1 : (j : Int) < 24 := by omega
        have HH := Lib.hid hH
        clear hH h0 hj
        generalize hm : (mm : Int) = mi at *
        generalize hji : (j : Int) = ji at *
        have HM := Lib.hid hm
        have HI := Lib.hid hji
        clear hm hji
        by_cases hev : mi % 2 = 0
        · go_wp2_with fail
          go_round
          case rel => exact ⟨j + 1, mm / 2, val_num (by rw [← HM.out]; simp), val_num (by have h1 := HP0.out (); have h2 := HPO.out (); have h3 := HJ.out (); rw [← HI.out]; unfold wrap64; omega), halved_step HH.out (by have := HM.out; omega), by have := HM.out; omega⟩
          case measure => simp [intOf]; omega
        · go_wp2_with fail
          refine bodyPost_ret (results_tmp4 rfl _ _ _) rfl ?_
          have ho : mm % 2 = 1 := by have := HM.out; omega
          refine ⟨fsg 8 23 x, mm, fpow 8 23 925 x + j, 0, p0 + ji, ret_four (val_num HZ.out.symm) (val_num HM.out.symm) rfl rfl, ?_, HS.out, ?_, ?_, ?_, below_drawnN (Below.refl _ _) _⟩
          · exact Or.inr (Or.inr ⟨rfl, HFI.out (), rfl, Or.inr ⟨ho, halved_value HH.out⟩⟩)
          · exact HL.out ()
          · have := HPO.out ()
            have := HJ.out ()
            omega
          · intro _ _
            rw [HP0.out (), ← HI.out]
            omega
set_option maxHeartbeats 2000000 in
theorem ref_value_double (x : Nat) (hx : x < 2 ^ (1 + 11 + 52)) (w : World) :
    Calls Try.prog 44 #[.int .u64 x, .int .i64 11, .int .i64 52] w fun e w' => ∃ (s m q k : Nat) (p : Int), e = .returned (.tuple #[.int .u64 s, .int .u64 m, .int .i64 p, .int .i64 k]) ∧
      ValueTo 11 52 0 x s m q k ∧ s < 2 ∧ m < 2 ^ (52 + 1) ∧ q ≤ 3000 ∧ (k = 0 → m ≠ 0 → p = q - 1074) ∧ Below w.heap.size w w' := by
  have hsm := f_small .double x
  have x0 : (0 : Int) ≤ x := by omega
  have x1 : (x : Int) < 18446744073709551616 := by omega
  have a1 : (x : Int) / 9223372036854775808 % 2 = (fsg 11 52 x : Nat) := by unfold fsg; omega
  have a2 : (x : Int) / 4503599627370496 % 2048 = (fex 11 52 x : Nat) := by unfold fex; omega
  have a3 : (x : Int) % 4503599627370496 = (ffr 52 x : Nat) := by unfold ffr; omega
  by_cases hA : fex 11 52 x = 2047
  · by_cases hf : ffr 52 x = 0
    · have HV : Hid (ValueTo 11 52 0 x (fsg 11 52 x) 0 0 1) := Lib.hid (Or.inr (Or.inl ⟨rfl, hA, hf, rfl, rfl⟩))
      have HS := Lib.hid hsm.1
      have a2' : (x : Int) / 4503599627370496 % 2048 = 2047 := by omega
      have a3' : (x : Int) % 4503599627370496 = 0 := by omega
      clear a2 a3
      generalize hs : ((fsg 11 52 x : Nat) : Int) = s at *
      generalize (x : Int) = z at *
      have HZ := Lib.hid hs
      clear hA hf hsm hx hs
      go_enter Try.func44, Try.ntmps44
      go_wp2_with fail
      go_quiet (fail)
      go_wp2_with fail
      refine bodyPost_ret (results_tmp4 rfl _ _ _) rfl ?_
      exact ⟨fsg 11 52 x, 0, 0, 1, 0, ret_four (val_num (a1.trans HZ.out.symm)) rfl rfl rfl, HV.out, HS.out, by decide, by decide, by omega, below_drawnN (Below.refl _ _) _⟩
    · have HV : Hid (ValueTo 11 52 0 x 0 0 0 2) := Lib.hid (Or.inl ⟨rfl, ⟨hA, hf⟩, rfl⟩)
      have a2' : (x : Int) / 4503599627370496 % 2048 = 2047 := by omega
      have a3' : ((x : Int) % 4503599627370496 != 0) = true := by simp; omega
      clear a2 a3 a1
      generalize (x : Int) = z at *
      clear hA hf hsm hx
      go_enter Try.func44, Try.ntmps44
      go_wp2_with fail
      go_quiet (fail)
      go_wp2_with fail
      refine bodyPost_ret (results_tmp4 rfl _ _ _) rfl ?_
      exact ⟨0, 0, 0, 2, 0, rfl, HV.out, by decide, by decide, by decide, by omega, below_drawnN (Below.refl _ _) _⟩
  · have hfin : fex 11 52 x < 2 ^ 11 - 1 := by omega
    have HFI := Lib.hid (fun _ : Unit => hfin)
    have HS := Lib.hid hsm.1
    have HNB := Lib.hid (fun _ : Unit => (f_nf .double x).2.1)
    have HPO : Hid (Unit → fpow 11 52 0 x ≤ 2900) := Lib.hid (fun _ => by unfold fpow; omega)
    by_cases he : fex 11 52 x = 0
    · have a2' : (x : Int) / 4503599627370496 % 2048 = 0 := by omega
      by_cases hf : ffr 52 x = 0
      · have HV : Hid (ValueTo 11 52 0 x (fsg 11 52 x) 0 0 0) := Lib.hid (Or.inr (Or.inr ⟨rfl, hfin, rfl, Or.inl ⟨rfl, by unfold fval fnum; rw [if_pos he, hf, Nat.zero_mul]⟩⟩))
        have a3' : (x : Int) % 4503599627370496 = 0 := by omega
        clear a2 a3
        generalize hs : ((fsg 11 52 x : Nat) : Int) = s at *
        have HZ := Lib.hid hs
        generalize (x : Int) = z at *
        clear hA hf hsm hx he hfin hs
        go_enter Try.func44, Try.ntmps44
        go_wp2_with fail
        go_quiet (fail)
        go_wp2_with fail
        refine bodyPost_ret (results_tmp4 rfl _ _ _) rfl ?_
        exact ⟨fsg 11 52 x, 0, 0, 0, 0, ret_four (val_num (a1.trans HZ.out.symm)) rfl rfl rfl, HV.out, HS.out, by decide, by decide, fun _ h => absurd rfl h, below_drawnN (Below.refl _ _) _⟩
      have hn : fnum 11 52 x = ffr 52 x := by unfold fnum; rw [if_pos he]
      have HN0 : Hid (0 < fnum 11 52 x) := Lib.hid (by omega)
      have a3' : (x : Int) % 4503599627370496 = (fnum 11 52 x : Nat) := by rw [hn]; exact a3
      have a4 : (((fnum 11 52 x : Nat) : Int) == 0) = false := by simp; omega
      have HP0 : Hid (Unit → (-1074 : Int) = (fpow 11 52 0 x : Int) - 1074) := Lib.hid (fun _ => by unfold fpow; omega)
      clear a2 a3 hn
      generalize hs : ((fsg 11 52 x : Nat) : Int) = s at *
      have HZ := Lib.hid hs
      generalize hfn : ((fnum 11 52 x : Nat) : Int) = fn at *
      have HFN := Lib.hid hfn
      generalize (x : Int) = z at *
      clear hA hf hsm hx he hfin hs hfn
      go_enter Try.func44, Try.ntmps44
      go_wp2_with fail
      go_quiet (fail)
      go_wp2_with fail
      rw [a3', a1]
      obtain ⟨p0, hp0⟩ : ∃ p0 : Int, -1074 = p0 := ⟨_, rfl⟩
      rw [hp0] at HP0 ⊢
      clear a4 hp0
      go_loop [12, 13] (fun a b => ∃ j mm : Nat, a = .int .u64 mm ∧ b = .int .i64 (p0 + j) ∧ Halved (fnum 11 52 x) j mm ∧ 0 < mm) (fun a _ => (intOf a).toNat)
      case atStart => exact ⟨0, fnum 11 52 x, by rw [← HFN.out], by simp, by unfold Halved; simp, HN0.out⟩
      case round =>
        obtain ⟨j, mm, rfl, rfl, hH, h0⟩ := hrel
        have hj := halved_small hH h0 (HNB.out ())
        have HL := Lib.hid (fun _ : Unit => Nat.lt_of_le_of_lt (halved_le hH) (HNB.out ()))
        have HJ := Lib.hid (fun _ : Unit => hj)
        have m0 : (0 : Int) < mm := by omega
        have m1 : (mm : Int) < 18446744073709551616 := by have := HL.out (); omega
        have j0 : (0 : Int) ≤ j := by omega
        have j1 : (j : Int) < 53 := by omega
        have HH := Lib.hid hH
        clear hH h0 hj
        generalize hm : (mm : Int) = mi at *
        generalize hji : (j : Int) = ji at *
        have HM := Lib.hid hm
        have HI := Lib.hid hji
        clear hm hji
        by_cases hev : mi % 2 = 0
        · go_wp2_with fail
          go_round
          case rel => exact ⟨j + 1, mm / 2, val_num (by rw [← HM.out]; simp), val_num (by have h1 := HP0.out (); have h2 := HPO.out (); have h3 := HJ.out (); rw [← HI.out]; unfold wrap64; omega), halved_step HH.out (by have := HM.out; omega), by have := HM.out; omega⟩
          case measure => simp [intOf]; omega
        · go_wp2_with fail
          refine bodyPost_ret (results_tmp4 rfl _ _ _) rfl ?_
          have ho : mm % 2 = 1 := by have := HM.out; omega
          refine ⟨fsg 11 52 x, mm, fpow 11 52 0 x + j, 0, p0 + ji, ret_four (val_num HZ.out.symm) (val_num HM.out.symm) rfl rfl, ?_, HS.out, ?_, ?_, ?_, below_drawnN (Below.refl _ _) _⟩
          · exact Or.inr (Or.inr ⟨rfl, HFI.out (), rfl, Or.inr ⟨ho, halved_value HH.out⟩⟩)
          · exact HL.out ()
          · have := HPO.out ()
            have := HJ.out ()
            omega
          · intro _ _
            rw [HP0.out (), ← HI.out]
            omega
    · have hef := hsm.2.1
      have a2' : (0 : Int) < (fex 11 52 x : Nat) := by omega
      have a2'' : ((fex 11 52 x : Nat) : Int) < 2047 := by omega
      have hn : fnum 11 52 x = ffr 52 x + 2 ^ 52 := by unfold fnum; rw [if_neg he]
      have HN0 : Hid (0 < fnum 11 52 x) := Lib.hid (by omega)
      have a3' : (x : Int) % 4503599627370496 + 4503599627370496 = (fnum 11 52 x : Nat) := by omega
      have a4 : (((fnum 11 52 x : Nat) : Int) == 0) = false := by simp; omega
      have HP0 : Hid (Unit → ((fex 11 52 x : Nat) : Int) - 1075 = (fpow 11 52 0 x : Int) - 1074) := Lib.hid (fun _ => by unfold fpow; omega)
      clear a3 hn
      generalize hs : ((fsg 11 52 x : Nat) : Int) = s at *
      have HZ := Lib.hid hs
      generalize hfn : ((fnum 11 52 x : Nat) : Int) = fn at *
      have HFN := Lib.hid hfn
      generalize ((fex 11 52 x : Nat) : Int) = ee at *
      generalize (x : Int) = z at *
      clear hA hsm hx he hfin hs hfn hef
      go_enter Try.func44, Try.ntmps44
      go_wp2_with fail
      go_quiet (fail)
      go_wp2_with fail
      rw [a1]
      obtain ⟨p0, hp0⟩ : ∃ p0 : Int, ee - 1023 - 52 = p0 := ⟨_, rfl⟩
      have hp1 : ee - 1075 = p0 := by omega
      rw [hp0]
      rw [hp1] at HP0
      clear a4 hp0 hp1 a2' a2'' a2 a3'
      go_loop [12, 13] (fun a b => ∃ j mm : Nat, a = .int .u64 mm ∧ b = .int .i64 (p0 + j) ∧ Halved (fnum 11 52 x) j mm ∧ 0 < mm) (fun a _ => (intOf a).toNat)
      case atStart => exact ⟨0, fnum 11 52 x, by rw [← HFN.out], by simp, by unfold Halved; simp, HN0.out⟩
      case round =>
        obtain ⟨j, mm, rfl, rfl, hH, h0⟩ := hrel
        have hj := halved_small hH h0 (HNB.out ())
        have HL := Lib.hid (fun _ : Unit => Nat.lt_of_le_of_lt (halved_le hH) (HNB.out ()))
        have HJ := Lib.hid (fun _ : Unit => hj)
        have m0 : (0 : Int) < mm := by omega
        have m1 : (mm : Int) < 18446744073709551616 := by have := HL.out (); omega
        have j0 : (0 : Int) ≤ j := by omega
        have j1 : (j : Int) < 53 := by omega
        have HH := Lib.hid hH
        clear hH h0 hj
        generalize hm : (mm : Int) = mi at *
        generalize hji : (j : Int) = ji at *
        have HM := Lib.hid hm
        have HI := Lib.hid hji
        clear hm hji
        by_cases hev : mi % 2 = 0
        · go_wp2_with fail
          go_round
          case rel => exact ⟨j + 1, mm / 2, val_num (by rw [← HM.out]; simp), val_num (by have h1 := HP0.out (); have h2 := HPO.out (); have h3 := HJ.out (); rw [← HI.out]; unfold wrap64; omega), halved_step HH.out (by have := HM.out; omega), by have := HM.out; omega⟩
          case measure => simp [intOf]; omega
        · go_wp2_with fail
          refine bodyPost_ret (results_tmp4 rfl _ _ _) rfl ?_
          have ho : mm % 2 = 1 := by have := HM.out; omega
          refine ⟨fsg 11 52 x, mm, fpow 11 52 0 x + j, 0, p0 + ji, ret_four (val_num HZ.out.symm) (val_num HM.out.symm) rfl rfl, ?_, HS.out, ?_, ?_, ?_, below_drawnN (Below.refl _ _) _⟩
          · exact Or.inr (Or.inr ⟨rfl, HFI.out (), rfl, Or.inr ⟨ho, halved_value HH.out⟩⟩)
          · exact HL.out ()
          · have := HPO.out ()
            have := HJ.out ()
            omega
          · intro _ _
            rw [HP0.out (), ← HI.out]
            omega
end Go.Proofs.Ytchhbcmkhbfpoaa
