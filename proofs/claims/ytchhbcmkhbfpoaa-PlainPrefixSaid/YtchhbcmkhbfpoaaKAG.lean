/- The document's float: bits. -/
import Derived.Test.YtchhbcmkhbfpoaaKAF
namespace Go.Proofs.Ytchhbcmkhbfpoaa
open Go.RowKit
/-- m, doubled j times, is M. -/
def Raised (m j M : Nat) : Prop := M = m * 2 ^ j
theorem raised_step {m j M : Nat} (h : Raised m j M) : Raised m (j + 1) (M * 2) := by
  unfold Raised at *
  rw [h, Nat.pow_succ, Nat.mul_assoc]
def BitsPost (E F O s m q : Nat) (e : Ending) : Prop := ∃ (z : Nat) (ok : Bool), e = .returned (.tuple #[.int .u64 z, .bool ok]) ∧ BitsTo E F O s m q z ok
theorem bits_post {E F O s m q z : Nat} {ok : Bool} {zi : Int} (h : BitsTo E F O s m q z ok) (hz : zi = z) : BitsPost E F O s m q (.returned (.tuple #[.int .u64 zi, .bool ok])) := ⟨z, ok, by rw [hz], h⟩
theorem raised_value {m j M q q' : Nat} (h : Raised m j M) (hq : q' + j = q) : M * 2 ^ q' = m * 2 ^ q := by
  unfold Raised at h
  rw [h, ← hq, Nat.mul_assoc, ← Nat.pow_add, Nat.add_comm j]
set_option maxHeartbeats 2000000 in
theorem ref_bits_half_inf (s m : Nat) (hs : s < 2) (p : Int) (w : World) :
    Calls Try.prog 45 #[.int .u64 s, .int .u64 m, .int .i64 p, .int .i64 1, .int .i64 5, .int .i64 10] w fun e w' => e = .returned (.tuple #[.int .u64 ((finf 5 10 s : Nat) : Int), .bool true]) ∧ w = w' := by
  have s0 : (0 : Int) ≤ s := by omega
  have s1 : (s : Int) < 2 := by omega
  have HF : Hid (Unit → (s : Int) * 32768 + 31744 = ((finf 5 10 s : Nat) : Int)) := Lib.hid (fun _ => by unfold finf; omega)
  generalize ((finf 5 10 s : Nat) : Int) = y at *
  generalize (s : Int) = sl at *
  generalize (m : Int) = ml at *
  clear hs
  go_enter Try.func45, Try.ntmps45
  go_wp2_with fail
  go_ret2
  exact ⟨by rw [← HF.out ()]; rfl, rfl⟩
set_option maxHeartbeats 2000000 in
theorem ref_bits_half_zero (s : Nat) (hs : s < 2) (p : Int) (w : World) :
    Calls Try.prog 45 #[.int .u64 s, .int .u64 0, .int .i64 p, .int .i64 0, .int .i64 5, .int .i64 10] w fun e w' => e = .returned (.tuple #[.int .u64 ((s * 2 ^ (5 + 10) : Nat) : Int), .bool true]) ∧ w = w' := by
  have s0 : (0 : Int) ≤ s := by omega
  have s1 : (s : Int) < 2 := by omega
  have HF : Hid (Unit → (s : Int) * 32768 = ((s * 2 ^ (5 + 10) : Nat) : Int)) := Lib.hid (fun _ => by omega)
  generalize ((s * 2 ^ (5 + 10) : Nat) : Int) = y at *
  generalize (s : Int) = sl at *
  clear hs
  go_enter Try.func45, Try.ntmps45
  go_wp2_with fail
  go_ret2
  exact ⟨by rw [← HF.out ()]; rfl, rfl⟩
set_option maxHeartbeats 4000000 in
theorem ref_bits_half (s m q : Nat) (hs : s < 2) (hm : m % 2 = 1) (hml : m < 2 ^ 60) (hq : q ≤ 3100) (w : World) :
    Calls Try.prog 45 #[.int .u64 s, .int .u64 m, .int .i64 ((q : Int) - 1074), .int .i64 0, .int .i64 5, .int .i64 10] w fun e w' => BitsPost 5 10 1050 s m q e ∧ Below w.heap.size w w' := by
  have s0 : (0 : Int) ≤ s := by omega
  have s1 : (s : Int) < 2 := by omega
  have m0 : (0 : Int) < m := by omega
  have m1 : (m : Int) < 1152921504606846976 := by omega
  have p0 : -1074 ≤ (q : Int) - 1074 := by omega
  have p1 : (q : Int) - 1074 < 3000 := by omega
  have HM : Hid (Unit → m % 2 = 1) := Lib.hid (fun _ => hm)
  by_cases hlow : q < 1050
  · have HB := Lib.hid (bits_low .half (s := s) hm hlow)
    have p2 : (q : Int) - 1074 < -24 := by omega
    generalize (s : Int) = sl at *
    generalize (m : Int) = ml at *
    generalize (q : Int) - 1074 = p at *
    clear hs hm hml hq hlow
    go_enter Try.func45, Try.ntmps45
    go_wp2_with fail
    refine bodyPost_ret (results_tmp2 rfl _ _ _) rfl ?_
    exact ⟨bits_post HB.out rfl, Below.refl _ _⟩
  · have p2 : ¬ ((q : Int) - 1074 < -24) := by omega
    have HS := Lib.hid (fun _ : Unit => hs)
    have HQ := Lib.hid (fun _ : Unit => hq)
    have HO : Hid (Unit → 1050 ≤ q) := Lib.hid (fun _ => by omega)
    have HML := Lib.hid (fun _ : Unit => hml)
    generalize hsl : (s : Int) = sl at *
    generalize hm2 : (m : Int) = ml at *
    generalize hp2 : (q : Int) - 1074 = p at *
    have HSL := Lib.hid (fun _ : Unit => hsl)
    have HMM := Lib.hid (fun _ : Unit => hm2)
    have HP := Lib.hid (fun _ : Unit => hp2)
    clear hs hm hml hq hlow hsl hm2 hp2
    go_enter Try.func45, Try.ntmps45
    go_wp2_with fail
    generalize hsp : sl * 32768 = so
    have HSO := Lib.hid (fun _ : Unit => hsp)
    have o0 : 0 ≤ so := by omega
    have o1 : so ≤ 32768 := by omega
    clear hsp s0 s1
    go_loop [1, 2] (fun a b => ∃ j mm : Nat, a = .int .u64 mm ∧ b = .int .i64 (p - j) ∧ Raised m j mm ∧ 1050 + j ≤ q ∧ (j = 0 ∨ mm < 2 ^ (10 + 1)) ∧ 0 < mm ∧ mm < 2 ^ 60) (fun _ b => (intOf b + 4000).toNat)
    case atStart => exact ⟨0, m, by rw [HMM.out ()], by simp, by unfold Raised; simp, by have := HO.out (); omega, Or.inl rfl, by have := HM.out (); omega, HML.out ()⟩
    case round =>
      obtain ⟨j, mm, rfl, rfl, hR, hjq, hj0, hm0, hml2⟩ := hrel
      have HR := Lib.hid hR
      have HJQ := Lib.hid (fun _ : Unit => hjq)
      have HJ0 := Lib.hid (fun _ : Unit => hj0)
      have HML2 := Lib.hid (fun _ : Unit => hml2)
      have HM0 := Lib.hid (fun _ : Unit => hm0)
      have n0 : (0 : Int) < mm := by omega
      have n1 : (mm : Int) < 1152921504606846976 := by omega
      have k0 : (0 : Int) ≤ j := by omega
      have k1 : (j : Int) ≤ 3100 := by have := HQ.out (); omega
      have k2 : -24 ≤ p - j := by have := HP.out (); omega
      clear hR hjq hj0 hml2 hm0
      generalize hn : (mm : Int) = n at *
      generalize hjl : (j : Int) = jl at *
      have HN := Lib.hid (fun _ : Unit => hn)
      have HJL := Lib.hid (fun _ : Unit => hjl)
      clear hn hjl
      by_cases c1 : n < 1024
      · by_cases c2 : -24 < p - jl
        · go_wp2_with fail
          go_round
          case rel =>
            have a1 := HN.out ()
            have a2 := HJL.out ()
            have a3 := HJQ.out ()
            have a4 := HP.out ()
            have a5 := HML2.out ()
            exact ⟨j + 1, mm * 2, val_num (by omega), val_num (by omega), raised_step HR.out, by omega, Or.inr (by omega), by omega, by omega⟩
          case measure => simp [intOf]; omega
        · go_wp2_with fail
          refine bodyPost_ret (results_tmp2 rfl _ _ _) rfl ?_
          have a1 := HN.out ()
          have a2 := HJL.out ()
          have a3 := HJQ.out ()
          have a4 := HP.out ()
          have a5 := HSO.out ()
          have a6 := HSL.out ()
          have hq : q = 1050 + j := by omega
          have e1 : fenc 5 10 1050 s mm (q - j) = s * 2 ^ (5 + 10) + mm := by unfold fenc; rw [if_pos (by omega)]
          have HB := bits_fits .half (HS.out ()) (show FNF 10 1050 mm (q - j) from ⟨by omega, by omega, Or.inr (by omega)⟩) (raised_value HR.out (show q - j + j = q by omega)) (by omega)
          have e2 : so + n = ((fenc 5 10 1050 s mm (q - j) : Nat) : Int) := by rw [e1]; omega
          exact ⟨bits_post HB e2, Below.refl _ _⟩
      · by_cases c3 : 2048 ≤ n
        · go_wp2_with fail
          refine bodyPost_ret (results_tmp2 rfl _ _ _) rfl ?_
          have a1 := HN.out ()
          have hj := HJ0.out ()
          have hj : j = 0 := by omega
          subst hj
          have hR := HR.out
          unfold Raised at hR
          exact ⟨bits_post (bits_big .half (HM.out ()) (by omega)) rfl, Below.refl _ _⟩
        · by_cases c4 : 31 ≤ p - jl + 15 + 10
          · go_wp2_with fail
            refine bodyPost_ret (results_tmp2 rfl _ _ _) rfl ?_
            have a1 := HN.out ()
            have a2 := HJL.out ()
            have a3 := HJQ.out ()
            have a4 := HP.out ()
            exact ⟨bits_post (bits_over .half (show FNF 10 1050 mm (q - j) from ⟨by omega, by omega, Or.inl (by omega)⟩) (raised_value HR.out (by omega)) (by omega) (by omega)) rfl, Below.refl _ _⟩
          · go_wp2_with fail
            go_quiet (fail)
            go_wp2_with fail
            refine bodyPost_ret (results_tmp2 rfl _ _ _) rfl ?_
            have a1 := HN.out ()
            have a2 := HJL.out ()
            have a3 := HJQ.out ()
            have a4 := HP.out ()
            have a5 := HSO.out ()
            have a6 := HSL.out ()
            have HB := bits_fits .half (HS.out ()) (show FNF 10 1050 mm (q - j) from ⟨by omega, by omega, Or.inl (by omega)⟩) (raised_value HR.out (show q - j + j = q by omega)) (by omega)
            have e1 : fenc 5 10 1050 s mm (q - j) = s * 2 ^ (5 + 10) + ((q - j - 1050 + 1) * 2 ^ 10 + (mm - 2 ^ 10)) := by unfold fenc; rw [if_neg (by omega)]
            have e2 : so + (p - jl + 15 + 10) * 1024 + n - 1024 = ((fenc 5 10 1050 s mm (q - j) : Nat) : Int) := by rw [e1]; omega
            exact ⟨bits_post HB e2, below_drawnN (Below.refl _ _) _⟩
set_option maxHeartbeats 2000000 in
theorem ref_bits_single_inf (s m : Nat) (hs : s < 2) (p : Int) (w : World) :
    Calls Try.prog 45 #[.int .u64 s, .int .u64 m, .int .i64 p, .int .i64 1, .int .i64 8, .int .i64 23] w fun e w' => e = .returned (.tuple #[.int .u64 ((finf 8 23 s : Nat) : Int), .bool true]) ∧ w = w' := by
  have s0 : (0 : Int) ≤ s := by omega
  have s1 : (s : Int) < 2 := by omega
  have HF : Hid (Unit → (s : Int) * 2147483648 + 2139095040 = ((finf 8 23 s : Nat) : Int)) := Lib.hid (fun _ => by unfold finf; omega)
  generalize ((finf 8 23 s : Nat) : Int) = y at *
  generalize (s : Int) = sl at *
  generalize (m : Int) = ml at *
  clear hs
  go_enter Try.func45, Try.ntmps45
  go_wp2_with fail
  go_ret2
  exact ⟨by rw [← HF.out ()]; rfl, rfl⟩
set_option maxHeartbeats 2000000 in
theorem ref_bits_single_zero (s : Nat) (hs : s < 2) (p : Int) (w : World) :
    Calls Try.prog 45 #[.int .u64 s, .int .u64 0, .int .i64 p, .int .i64 0, .int .i64 8, .int .i64 23] w fun e w' => e = .returned (.tuple #[.int .u64 ((s * 2 ^ (8 + 23) : Nat) : Int), .bool true]) ∧ w = w' := by
  have s0 : (0 : Int) ≤ s := by omega
  have s1 : (s : Int) < 2 := by omega
  have HF : Hid (Unit → (s : Int) * 2147483648 = ((s * 2 ^ (8 + 23) : Nat) : Int)) := Lib.hid (fun _ => by omega)
  generalize ((s * 2 ^ (8 + 23) : Nat) : Int) = y at *
  generalize (s : Int) = sl at *
  clear hs
  go_enter Try.func45, Try.ntmps45
  go_wp2_with fail
  go_ret2
  exact ⟨by rw [← HF.out ()]; rfl, rfl⟩
set_option maxHeartbeats 4000000 in
theorem ref_bits_single (s m q : Nat) (hs : s < 2) (hm : m % 2 = 1) (hml : m < 2 ^ 60) (hq : q ≤ 3100) (w : World) :
    Calls Try.prog 45 #[.int .u64 s, .int .u64 m, .int .i64 ((q : Int) - 1074), .int .i64 0, .int .i64 8, .int .i64 23] w fun e w' => BitsPost 8 23 925 s m q e ∧ Below w.heap.size w w' := by
  have s0 : (0 : Int) ≤ s := by omega
  have s1 : (s : Int) < 2 := by omega
  have m0 : (0 : Int) < m := by omega
  have m1 : (m : Int) < 1152921504606846976 := by omega
  have p0 : -1074 ≤ (q : Int) - 1074 := by omega
  have p1 : (q : Int) - 1074 < 3000 := by omega
  have HM : Hid (Unit → m % 2 = 1) := Lib.hid (fun _ => hm)
  by_cases hlow : q < 925
  · have HB := Lib.hid (bits_low .single (s := s) hm hlow)
    have p2 : (q : Int) - 1074 < -149 := by omega
    generalize (s : Int) = sl at *
    generalize (m : Int) = ml at *
    generalize (q : Int) - 1074 = p at *
    clear hs hm hml hq hlow
    go_enter Try.func45, Try.ntmps45
    go_wp2_with fail
    refine bodyPost_ret (results_tmp2 rfl _ _ _) rfl ?_
    exact ⟨bits_post HB.out rfl, Below.refl _ _⟩
  · have p2 : ¬ ((q : Int) - 1074 < -149) := by omega
    have HS := Lib.hid (fun _ : Unit => hs)
    have HQ := Lib.hid (fun _ : Unit => hq)
    have HO : Hid (Unit → 925 ≤ q) := Lib.hid (fun _ => by omega)
    have HML := Lib.hid (fun _ : Unit => hml)
    generalize hsl : (s : Int) = sl at *
    generalize hm2 : (m : Int) = ml at *
    generalize hp2 : (q : Int) - 1074 = p at *
    have HSL := Lib.hid (fun _ : Unit => hsl)
    have HMM := Lib.hid (fun _ : Unit => hm2)
    have HP := Lib.hid (fun _ : Unit => hp2)
    clear hs hm hml hq hlow hsl hm2 hp2
    go_enter Try.func45, Try.ntmps45
    go_wp2_with fail
    generalize hsp : sl * 2147483648 = so
    have HSO := Lib.hid (fun _ : Unit => hsp)
    have o0 : 0 ≤ so := by omega
    have o1 : so ≤ 2147483648 := by omega
    clear hsp s0 s1
    go_loop [1, 2] (fun a b => ∃ j mm : Nat, a = .int .u64 mm ∧ b = .int .i64 (p - j) ∧ Raised m j mm ∧ 925 + j ≤ q ∧ (j = 0 ∨ mm < 2 ^ (23 + 1)) ∧ 0 < mm ∧ mm < 2 ^ 60) (fun _ b => (intOf b + 4000).toNat)
    case atStart => exact ⟨0, m, by rw [HMM.out ()], by simp, by unfold Raised; simp, by have := HO.out (); omega, Or.inl rfl, by have := HM.out (); omega, HML.out ()⟩
    case round =>
      obtain ⟨j, mm, rfl, rfl, hR, hjq, hj0, hm0, hml2⟩ := hrel
      have HR := Lib.hid hR
      have HJQ := Lib.hid (fun _ : Unit => hjq)
      have HJ0 := Lib.hid (fun _ : Unit => hj0)
      have HML2 := Lib.hid (fun _ : Unit => hml2)
      have HM0 := Lib.hid (fun _ : Unit => hm0)
      have n0 : (0 : Int) < mm := by omega
      have n1 : (mm : Int) < 1152921504606846976 := by omega
      have k0 : (0 : Int) ≤ j := by omega
      have k1 : (j : Int) ≤ 3100 := by have := HQ.out (); omega
      have k2 : -149 ≤ p - j := by have := HP.out (); omega
      clear hR hjq hj0 hml2 hm0
      generalize hn : (mm : Int) = n at *
      generalize hjl : (j : Int) = jl at *
      have HN := Lib.hid (fun _ : Unit => hn)
      have HJL := Lib.hid (fun _ : Unit => hjl)
      clear hn hjl
      by_cases c1 : n < 8388608
      · by_cases c2 : -149 < p - jl
        · go_wp2_with fail
          go_round
          case rel =>
            have a1 := HN.out ()
            have a2 := HJL.out ()
            have a3 := HJQ.out ()
            have a4 := HP.out ()
            have a5 := HML2.out ()
            exact ⟨j + 1, mm * 2, val_num (by omega), val_num (by omega), raised_step HR.out, by omega, Or.inr (by omega), by omega, by omega⟩
          case measure => simp [intOf]; omega
        · go_wp2_with fail
          refine bodyPost_ret (results_tmp2 rfl _ _ _) rfl ?_
          have a1 := HN.out ()
          have a2 := HJL.out ()
          have a3 := HJQ.out ()
          have a4 := HP.out ()
          have a5 := HSO.out ()
          have a6 := HSL.out ()
          have hq : q = 925 + j := by omega
          have e1 : fenc 8 23 925 s mm (q - j) = s * 2 ^ (8 + 23) + mm := by unfold fenc; rw [if_pos (by omega)]
          have HB := bits_fits .single (HS.out ()) (show FNF 23 925 mm (q - j) from ⟨by omega, by omega, Or.inr (by omega)⟩) (raised_value HR.out (show q - j + j = q by omega)) (by omega)
          have e2 : so + n = ((fenc 8 23 925 s mm (q - j) : Nat) : Int) := by rw [e1]; omega
          exact ⟨bits_post HB e2, Below.refl _ _⟩
      · by_cases c3 : 16777216 ≤ n
        · go_wp2_with fail
          refine bodyPost_ret (results_tmp2 rfl _ _ _) rfl ?_
          have a1 := HN.out ()
          have hj := HJ0.out ()
          have hj : j = 0 := by omega
          subst hj
          have hR := HR.out
          unfold Raised at hR
          exact ⟨bits_post (bits_big .single (HM.out ()) (by omega)) rfl, Below.refl _ _⟩
        · by_cases c4 : 255 ≤ p - jl + 127 + 23
          · go_wp2_with fail
            refine bodyPost_ret (results_tmp2 rfl _ _ _) rfl ?_
            have a1 := HN.out ()
            have a2 := HJL.out ()
            have a3 := HJQ.out ()
            have a4 := HP.out ()
            exact ⟨bits_post (bits_over .single (show FNF 23 925 mm (q - j) from ⟨by omega, by omega, Or.inl (by omega)⟩) (raised_value HR.out (by omega)) (by omega) (by omega)) rfl, Below.refl _ _⟩
          · go_wp2_with fail
            go_quiet (fail)
            go_wp2_with fail
            refine bodyPost_ret (results_tmp2 rfl _ _ _) rfl ?_
            have a1 := HN.out ()
            have a2 := HJL.out ()
            have a3 := HJQ.out ()
            have a4 := HP.out ()
            have a5 := HSO.out ()
            have a6 := HSL.out ()
            have HB := bits_fits .single (HS.out ()) (show FNF 23 925 mm (q - j) from ⟨by omega, by omega, Or.inl (by omega)⟩) (raised_value HR.out (show q - j + j = q by omega)) (by omega)
            have e1 : fenc 8 23 925 s mm (q - j) = s * 2 ^ (8 + 23) + ((q - j - 925 + 1) * 2 ^ 23 + (mm - 2 ^ 23)) := by unfold fenc; rw [if_neg (by omega)]
            have e2 : so + (p - jl + 127 + 23) * 8388608 + n - 8388608 = ((fenc 8 23 925 s mm (q - j) : Nat) : Int) := by rw [e1]; omega
            exact ⟨bits_post HB e2, below_drawnN (Below.refl _ _) _⟩
set_option maxHeartbeats 2000000 in
theorem ref_bits_double_inf (s m : Nat) (hs : s < 2) (p : Int) (w : World) :
    Calls Try.prog 45 #[.int .u64 s, .int .u64 m, .int .i64 p, .int .i64 1, .int .i64 11, .int .i64 52] w fun e w' => e = .returned (.tuple #[.int .u64 ((finf 11 52 s : Nat) : Int), .bool true]) ∧ w = w' := by
  have s0 : (0 : Int) ≤ s := by omega
  have s1 : (s : Int) < 2 := by omega
  have HF : Hid (Unit → (s : Int) * 9223372036854775808 + 9218868437227405312 = ((finf 11 52 s : Nat) : Int)) := Lib.hid (fun _ => by unfold finf; omega)
  generalize ((finf 11 52 s : Nat) : Int) = y at *
  generalize (s : Int) = sl at *
  generalize (m : Int) = ml at *
  clear hs
  go_enter Try.func45, Try.ntmps45
  go_wp2_with fail
  go_ret2
  exact ⟨by rw [← HF.out ()]; rfl, rfl⟩
set_option maxHeartbeats 2000000 in
theorem ref_bits_double_zero (s : Nat) (hs : s < 2) (p : Int) (w : World) :
    Calls Try.prog 45 #[.int .u64 s, .int .u64 0, .int .i64 p, .int .i64 0, .int .i64 11, .int .i64 52] w fun e w' => e = .returned (.tuple #[.int .u64 ((s * 2 ^ (11 + 52) : Nat) : Int), .bool true]) ∧ w = w' := by
  have s0 : (0 : Int) ≤ s := by omega
  have s1 : (s : Int) < 2 := by omega
  have HF : Hid (Unit → (s : Int) * 9223372036854775808 = ((s * 2 ^ (11 + 52) : Nat) : Int)) := Lib.hid (fun _ => by omega)
  generalize ((s * 2 ^ (11 + 52) : Nat) : Int) = y at *
  generalize (s : Int) = sl at *
  clear hs
  go_enter Try.func45, Try.ntmps45
  go_wp2_with fail
  go_ret2
  exact ⟨by rw [← HF.out ()]; rfl, rfl⟩
set_option maxHeartbeats 4000000 in
theorem ref_bits_double (s m q : Nat) (hs : s < 2) (hm : m % 2 = 1) (hml : m < 2 ^ 60) (hq : q ≤ 3100) (w : World) :
    Calls Try.prog 45 #[.int .u64 s, .int .u64 m, .int .i64 ((q : Int) - 1074), .int .i64 0, .int .i64 11, .int .i64 52] w fun e w' => BitsPost 11 52 0 s m q e ∧ Below w.heap.size w w' := by
  have s0 : (0 : Int) ≤ s := by omega
  have s1 : (s : Int) < 2 := by omega
  have m0 : (0 : Int) < m := by omega
  have m1 : (m : Int) < 1152921504606846976 := by omega
  have p0 : -1074 ≤ (q : Int) - 1074 := by omega
  have p1 : (q : Int) - 1074 < 3000 := by omega
  have HM : Hid (Unit → m % 2 = 1) := Lib.hid (fun _ => hm)
  by_cases hlow : q < 0
  · have HB := Lib.hid (bits_low .double (s := s) hm hlow)
    have p2 : (q : Int) - 1074 < -1074 := by omega
    omega
  · have p2 : ¬ ((q : Int) - 1074 < -1074) := by omega
    have HS := Lib.hid (fun _ : Unit => hs)
    have HQ := Lib.hid (fun _ : Unit => hq)
    have HO : Hid (Unit → 0 ≤ q) := Lib.hid (fun _ => by omega)
    have HML := Lib.hid (fun _ : Unit => hml)
    generalize hsl : (s : Int) = sl at *
    generalize hm2 : (m : Int) = ml at *
    generalize hp2 : (q : Int) - 1074 = p at *
    have HSL := Lib.hid (fun _ : Unit => hsl)
    have HMM := Lib.hid (fun _ : Unit => hm2)
    have HP := Lib.hid (fun _ : Unit => hp2)
    clear hs hm hml hq hlow hsl hm2 hp2
    go_enter Try.func45, Try.ntmps45
    go_wp2_with fail
    generalize hsp : sl * 9223372036854775808 = so
    have HSO := Lib.hid (fun _ : Unit => hsp)
    have o0 : 0 ≤ so := by omega
    have o1 : so ≤ 9223372036854775808 := by omega
    clear hsp s0 s1
    go_loop [1, 2] (fun a b => ∃ j mm : Nat, a = .int .u64 mm ∧ b = .int .i64 (p - j) ∧ Raised m j mm ∧ 0 + j ≤ q ∧ (j = 0 ∨ mm < 2 ^ (52 + 1)) ∧ 0 < mm ∧ mm < 2 ^ 60) (fun _ b => (intOf b + 4000).toNat)
    case atStart => exact ⟨0, m, by rw [HMM.out ()], by simp, by unfold Raised; simp, by have := HO.out (); omega, Or.inl rfl, by have := HM.out (); omega, HML.out ()⟩
    case round =>
      obtain ⟨j, mm, rfl, rfl, hR, hjq, hj0, hm0, hml2⟩ := hrel
      have HR := Lib.hid hR
      have HJQ := Lib.hid (fun _ : Unit => hjq)
      have HJ0 := Lib.hid (fun _ : Unit => hj0)
      have HML2 := Lib.hid (fun _ : Unit => hml2)
      have HM0 := Lib.hid (fun _ : Unit => hm0)
      have n0 : (0 : Int) < mm := by omega
      have n1 : (mm : Int) < 1152921504606846976 := by omega
      have k0 : (0 : Int) ≤ j := by omega
      have k1 : (j : Int) ≤ 3100 := by have := HQ.out (); omega
      have k2 : -1074 ≤ p - j := by have := HP.out (); omega
      clear hR hjq hj0 hml2 hm0
      generalize hn : (mm : Int) = n at *
      generalize hjl : (j : Int) = jl at *
      have HN := Lib.hid (fun _ : Unit => hn)
      have HJL := Lib.hid (fun _ : Unit => hjl)
      clear hn hjl
      by_cases c1 : n < 4503599627370496
      · by_cases c2 : -1074 < p - jl
        · go_wp2_with fail
          go_round
          case rel =>
            have a1 := HN.out ()
            have a2 := HJL.out ()
            have a3 := HJQ.out ()
            have a4 := HP.out ()
            have a5 := HML2.out ()
            exact ⟨j + 1, mm * 2, val_num (by omega), val_num (by omega), raised_step HR.out, by omega, Or.inr (by omega), by omega, by omega⟩
          case measure => simp [intOf]; omega
        · go_wp2_with fail
          refine bodyPost_ret (results_tmp2 rfl _ _ _) rfl ?_
          have a1 := HN.out ()
          have a2 := HJL.out ()
          have a3 := HJQ.out ()
          have a4 := HP.out ()
          have a5 := HSO.out ()
          have a6 := HSL.out ()
          have hq : q = 0 + j := by omega
          have e1 : fenc 11 52 0 s mm (q - j) = s * 2 ^ (11 + 52) + mm := by unfold fenc; rw [if_pos (by omega)]
          have HB := bits_fits .double (HS.out ()) (show FNF 52 0 mm (q - j) from ⟨by omega, by omega, Or.inr (by omega)⟩) (raised_value HR.out (show q - j + j = q by omega)) (by omega)
          have e2 : so + n = ((fenc 11 52 0 s mm (q - j) : Nat) : Int) := by rw [e1]; omega
          exact ⟨bits_post HB e2, Below.refl _ _⟩
      · by_cases c3 : 9007199254740992 ≤ n
        · go_wp2_with fail
          refine bodyPost_ret (results_tmp2 rfl _ _ _) rfl ?_
          have a1 := HN.out ()
          have hj := HJ0.out ()
          have hj : j = 0 := by omega
          subst hj
          have hR := HR.out
          unfold Raised at hR
          exact ⟨bits_post (bits_big .double (HM.out ()) (by omega)) rfl, Below.refl _ _⟩
        · by_cases c4 : 2047 ≤ p - jl + 1023 + 52
          · go_wp2_with fail
            refine bodyPost_ret (results_tmp2 rfl _ _ _) rfl ?_
            have a1 := HN.out ()
            have a2 := HJL.out ()
            have a3 := HJQ.out ()
            have a4 := HP.out ()
            exact ⟨bits_post (bits_over .double (show FNF 52 0 mm (q - j) from ⟨by omega, by omega, Or.inl (by omega)⟩) (raised_value HR.out (by omega)) (by omega) (by omega)) rfl, Below.refl _ _⟩
          · go_wp2_with fail
            go_quiet (fail)
            go_wp2_with fail
            refine bodyPost_ret (results_tmp2 rfl _ _ _) rfl ?_
            have a1 := HN.out ()
            have a2 := HJL.out ()
            have a3 := HJQ.out ()
            have a4 := HP.out ()
            have a5 := HSO.out ()
            have a6 := HSL.out ()
            have HB := bits_fits .double (HS.out ()) (show FNF 52 0 mm (q - j) from ⟨by omega, by omega, Or.inl (by omega)⟩) (raised_value HR.out (show q - j + j = q by omega)) (by omega)
            have e1 : fenc 11 52 0 s mm (q - j) = s * 2 ^ (11 + 52) + ((q - j - 0 + 1) * 2 ^ 52 + (mm - 2 ^ 52)) := by unfold fenc; rw [if_neg (by omega)]
            have e2 : so + (p - jl + 1023 + 52) * 4503599627370496 + n - 4503599627370496 = ((fenc 11 52 0 s mm (q - j) : Nat) : Int) := by rw [e1]; omega
            exact ⟨bits_post HB e2, below_drawnN (Below.refl _ _) _⟩
end Go.Proofs.Ytchhbcmkhbfpoaa

/- The document's float: Widen and Shortest. -/
namespace Go.Proofs.Ytchhbcmkhbfpoaa
open Go.RowKit
/-- x is the double of the form y of W bytes. -/
def Wd (W : Int) (y x : Nat) : Prop := (W = 2 ∧ Wide 5 10 1050 y x) ∨ (W = 4 ∧ Wide 8 23 925 y x) ∨ (W = 8 ∧ Wide 11 52 0 y x)
theorem wd_fun {W : Int} {y x x' : Nat} (a : Wd W y x) (b : Wd W y x') : x = x' := by
  rcases a with ⟨h, a⟩ | ⟨h, a⟩ | ⟨h, a⟩ <;> rcases b with ⟨h', b⟩ | ⟨h', b⟩ | ⟨h', b⟩ <;> first | omega | skip
  · exact wide_fun .half a b
  · exact wide_fun .single a b
  · exact wide_fun .double a b
theorem wd_lt {W : Int} {y x : Nat} (a : Wd W y x) : x < 2 ^ 64 := by
  rcases a with ⟨_, a⟩ | ⟨_, a⟩ | ⟨_, a⟩ <;> exact a.2.1
theorem sh_nan {x : Nat} (h : FNan 11 52 x) : Shortest x 32256 2 := Or.inl ⟨h, rfl, rfl⟩
theorem sh_inf {x : Nat} (hx : x < 2 ^ 64) (he : fex 11 52 x = 2047) (hf : ffr 52 x = 0) : Shortest x (finf 5 10 (fsg 11 52 x)) 2 := by
  refine Or.inr ⟨fun h => h.2 hf, Or.inl ⟨rfl, ?_⟩⟩
  obtain ⟨a, b, c, d⟩ := inf_parts .half (f_small .double x).1
  have := widen_inf .half a c d
  rw [b, ← inf_of .double hx he hf] at this
  exact this
theorem sh_zero {x : Nat} (hx : x < 2 ^ 64) (he : fex 11 52 x = 0) (hf : ffr 52 x = 0) : Shortest x (fsg 11 52 x * 2 ^ (5 + 10)) 2 := by
  refine Or.inr ⟨fun h => h.2 hf, Or.inl ⟨rfl, ?_⟩⟩
  obtain ⟨a, b, c, d⟩ := f_parts .half (f_small .double x).1 (show 0 < 2 ^ 5 by decide) (show 0 < 2 ^ 10 by decide)
  rw [Nat.zero_mul, Nat.add_zero, Nat.add_zero] at a b c d
  have := widen_zero .half a c d
  have h2 := f_split .double hx
  rw [he, hf, Nat.zero_mul, Nat.add_zero, Nat.add_zero] at h2
  rw [b, ← h2] at this
  exact this
def PairPost (P : Nat → Prop) (e : Ending) : Prop := ∃ z : Nat, e = .returned (.tuple #[.int .u64 z, .bool true]) ∧ P z
theorem pair_post {P : Nat → Prop} {z : Nat} {zi : Int} (h : P z) (hz : zi = z) : PairPost P (.returned (.tuple #[.int .u64 zi, .bool true])) := ⟨z, by rw [hz], h⟩
def SPost (P : Nat → Nat → Prop) (e : Ending) : Prop := ∃ z v : Nat, e = .returned (.tuple #[.int .u64 z, .int .i64 v]) ∧ P z v
theorem s_post {P : Nat → Nat → Prop} {z v : Nat} {zi vi : Int} (h : P z v) (hz : zi = z) (hv : vi = v) : SPost P (.returned (.tuple #[.int .u64 zi, .int .i64 vi])) := ⟨z, v, by rw [hz, hv], h⟩
set_option maxHeartbeats 1000000 in
theorem ref_Widen_other (x : Nat) (W : Int) (h2 : W ≠ 2) (h4 : W ≠ 4) (h8 : W ≠ 8) (w : World) :
    Calls Try.prog 32 #[.int .u64 x, .int .i64 W] w fun e w' => e = .returned (.tuple #[.int .u64 0, .bool false]) ∧ Below w.heap.size w w' := by
  have q2 : (W == 2) = false := by simp [h2]
  have q4 : (W == 4) = false := by simp [h4]
  have q8 : (W == 8) = false := by simp [h8]
  generalize (x : Int) = z
  clear h2 h4 h8
  go_enter Try.func32, Try.ntmps32
  go_wp2_with fail
  refine bodyPost_ret (results_tmp2 rfl _ _ _) rfl ?_
  exact ⟨rfl, Below.refl _ _⟩
set_option maxHeartbeats 1000000 in
theorem ref_Widen_half_not (x : Nat) (h : 65536 ≤ x) (w : World) :
    Calls Try.prog 32 #[.int .u64 x, .int .i64 2] w fun e w' => e = .returned (.tuple #[.int .u64 0, .bool false]) ∧ Below w.heap.size w w' := by
  have q0 : (65536 : Int) ≤ x := by omega
  generalize (x : Int) = z at *
  clear h
  go_enter Try.func32, Try.ntmps32
  go_wp2_with fail
  refine bodyPost_ret (results_tmp2 rfl _ _ _) rfl ?_
  exact ⟨rfl, Below.refl _ _⟩
set_option maxHeartbeats 2000000 in
theorem ref_Widen_half (x : Nat) (h : x < 2 ^ (1 + 5 + 10)) (w : World) :
    Calls Try.prog 32 #[.int .u64 x, .int .i64 2] w fun e w' => PairPost (Wide 5 10 1050 x) e ∧ Below w.heap.size w w' := by
  have q0 : (x : Int) < 65536 := by omega
  have HV := Lib.hid (ref_value_half x h)
  have HX := Lib.hid (fun _ : Unit => h)
  generalize (x : Int) = z at *
  clear h
  go_enter Try.func32, Try.ntmps32
  go_wp2_with fail
  refine (HV.out _).mono ?_
  rintro e w1 ⟨s, m, q, k, p, rfl, hv, hs, hm, hq, hp, S1⟩
  have HS1 := Lib.hid S1
  clear HV S1
  have hv0 := hv
  rcases hv0 with ⟨rfl, a, b⟩ | ⟨rfl, a, b, c, rfl⟩ | ⟨rfl, a, b, c⟩
  · have HW := Lib.hid (widen_nan (O := 1050) (HX.out ()) a)
    clear hv hs hm hq hp a b
    generalize (s : Int) = sl at *
    generalize (m : Int) = ml at *
    rw [show ((2 : Nat) : Int) = 2 from rfl]
    go_wp2_with fail
    refine bodyPost_ret (results_tmp2 rfl _ _ _) rfl ?_
    exact ⟨pair_post HW.out rfl, HS1.out⟩
  · have HW := widen_inf .half (HX.out ()) a b
    rw [← c] at HW
    have HW := Lib.hid HW
    have HB := Lib.hid (ref_bits_double_inf s 0 hs p)
    clear hv hs hm hq hp a b c
    generalize hy : ((finf 11 52 s : Nat) : Int) = y at *
    generalize (s : Int) = sl at *
    rw [show ((0 : Nat) : Int) = 0 from rfl] at *
    rw [show ((1 : Nat) : Int) = 1 from rfl]
    have HY := Lib.hid (fun _ : Unit => hy)
    clear hy
    go_wp2_with (go_at_call 45; refine (HB.out _).mono ?_; rintro e w' ⟨rfl, rfl⟩)
    refine bodyPost_ret (results_tmp2 rfl _ _ _) rfl ?_
    exact ⟨pair_post HW.out (HY.out ()).symm, HS1.out⟩
  · by_cases hm0 : m = 0
    · subst hm0
      obtain ⟨z1, z2⟩ := value_zero hv rfl
      have HW := widen_zero .half (HX.out ()) z1 z2
      rw [← b] at HW
      have HW := Lib.hid HW
      have HB := Lib.hid (ref_bits_double_zero s hs p)
      clear hv hs hm hq hp a b c z1 z2
      generalize hy : ((s * 2 ^ (11 + 52) : Nat) : Int) = y at *
      generalize (s : Int) = sl at *
      rw [show ((0 : Nat) : Int) = 0 from rfl]
      have HY := Lib.hid (fun _ : Unit => hy)
      clear hy
      go_wp2_with (go_at_call 45; refine (HB.out _).mono ?_; rintro e w' ⟨rfl, rfl⟩)
      refine bodyPost_ret (results_tmp2 rfl _ _ _) rfl ?_
      exact ⟨pair_post HW.out (HY.out ()).symm, HS1.out⟩
    · have hpp := hp rfl hm0
      subst hpp
      have hodd : m % 2 = 1 := by
        rcases c with ⟨c, _⟩ | ⟨c, _⟩ <;> omega
      have HB := Lib.hid (ref_bits_double s m q hs hodd (by omega) (by omega))
      have HW := Lib.hid (fun z ok (hb : BitsTo 11 52 0 s m q z ok) => bits_wide .half (HX.out ()) hv rfl hm0 hb)
      clear hv hs hm hq hp a b c hm0 hodd
      generalize (s : Int) = sl at *
      generalize (m : Int) = ml at *
      generalize (q : Int) - 1074 = pl at *
      rw [show ((0 : Nat) : Int) = 0 from rfl]
      go_wp2_with fail
      refine (HB.out _).mono ?_
      rintro e w2 ⟨⟨y, ok, rfl, hb⟩, S2⟩
      have HW := Lib.hid (HW.out y ok hb)
      clear hb
      generalize hy : (y : Int) = yl at *
      have HY := Lib.hid (fun _ : Unit => hy)
      clear hy
      go_wp2_with fail
      refine bodyPost_ret (results_tmp2 rfl _ _ _) rfl ?_
      exact ⟨pair_post HW.out (HY.out ()).symm, HS1.out.trans (S2.mono HS1.out.size)⟩
set_option maxHeartbeats 1000000 in
theorem ref_Widen_single_not (x : Nat) (h : 4294967296 ≤ x) (w : World) :
    Calls Try.prog 32 #[.int .u64 x, .int .i64 4] w fun e w' => e = .returned (.tuple #[.int .u64 0, .bool false]) ∧ Below w.heap.size w w' := by
  have q0 : (4294967296 : Int) ≤ x := by omega
  generalize (x : Int) = z at *
  clear h
  go_enter Try.func32, Try.ntmps32
  go_wp2_with fail
  refine bodyPost_ret (results_tmp2 rfl _ _ _) rfl ?_
  exact ⟨rfl, Below.refl _ _⟩
set_option maxHeartbeats 2000000 in
theorem ref_Widen_single (x : Nat) (h : x < 2 ^ (1 + 8 + 23)) (w : World) :
    Calls Try.prog 32 #[.int .u64 x, .int .i64 4] w fun e w' => PairPost (Wide 8 23 925 x) e ∧ Below w.heap.size w w' := by
  have q0 : (x : Int) < 4294967296 := by omega
  have HV := Lib.hid (ref_value_single x h)
  have HX := Lib.hid (fun _ : Unit => h)
  generalize (x : Int) = z at *
  clear h
  go_enter Try.func32, Try.ntmps32
  go_wp2_with fail
  refine (HV.out _).mono ?_
  rintro e w1 ⟨s, m, q, k, p, rfl, hv, hs, hm, hq, hp, S1⟩
  have HS1 := Lib.hid S1
  clear HV S1
  have hv0 := hv
  rcases hv0 with ⟨rfl, a, b⟩ | ⟨rfl, a, b, c, rfl⟩ | ⟨rfl, a, b, c⟩
  · have HW := Lib.hid (widen_nan (O := 925) (HX.out ()) a)
    clear hv hs hm hq hp a b
    generalize (s : Int) = sl at *
    generalize (m : Int) = ml at *
    rw [show ((2 : Nat) : Int) = 2 from rfl]
    go_wp2_with fail
    refine bodyPost_ret (results_tmp2 rfl _ _ _) rfl ?_
    exact ⟨pair_post HW.out rfl, HS1.out⟩
  · have HW := widen_inf .single (HX.out ()) a b
    rw [← c] at HW
    have HW := Lib.hid HW
    have HB := Lib.hid (ref_bits_double_inf s 0 hs p)
    clear hv hs hm hq hp a b c
    generalize hy : ((finf 11 52 s : Nat) : Int) = y at *
    generalize (s : Int) = sl at *
    rw [show ((0 : Nat) : Int) = 0 from rfl] at *
    rw [show ((1 : Nat) : Int) = 1 from rfl]
    have HY := Lib.hid (fun _ : Unit => hy)
    clear hy
    go_wp2_with (go_at_call 45; refine (HB.out _).mono ?_; rintro e w' ⟨rfl, rfl⟩)
    refine bodyPost_ret (results_tmp2 rfl _ _ _) rfl ?_
    exact ⟨pair_post HW.out (HY.out ()).symm, HS1.out⟩
  · by_cases hm0 : m = 0
    · subst hm0
      obtain ⟨z1, z2⟩ := value_zero hv rfl
      have HW := widen_zero .single (HX.out ()) z1 z2
      rw [← b] at HW
      have HW := Lib.hid HW
      have HB := Lib.hid (ref_bits_double_zero s hs p)
      clear hv hs hm hq hp a b c z1 z2
      generalize hy : ((s * 2 ^ (11 + 52) : Nat) : Int) = y at *
      generalize (s : Int) = sl at *
      rw [show ((0 : Nat) : Int) = 0 from rfl]
      have HY := Lib.hid (fun _ : Unit => hy)
      clear hy
      go_wp2_with (go_at_call 45; refine (HB.out _).mono ?_; rintro e w' ⟨rfl, rfl⟩)
      refine bodyPost_ret (results_tmp2 rfl _ _ _) rfl ?_
      exact ⟨pair_post HW.out (HY.out ()).symm, HS1.out⟩
    · have hpp := hp rfl hm0
      subst hpp
      have hodd : m % 2 = 1 := by
        rcases c with ⟨c, _⟩ | ⟨c, _⟩ <;> omega
      have HB := Lib.hid (ref_bits_double s m q hs hodd (by omega) (by omega))
      have HW := Lib.hid (fun z ok (hb : BitsTo 11 52 0 s m q z ok) => bits_wide .single (HX.out ()) hv rfl hm0 hb)
      clear hv hs hm hq hp a b c hm0 hodd
      generalize (s : Int) = sl at *
      generalize (m : Int) = ml at *
      generalize (q : Int) - 1074 = pl at *
      rw [show ((0 : Nat) : Int) = 0 from rfl]
      go_wp2_with fail
      refine (HB.out _).mono ?_
      rintro e w2 ⟨⟨y, ok, rfl, hb⟩, S2⟩
      have HW := Lib.hid (HW.out y ok hb)
      clear hb
      generalize hy : (y : Int) = yl at *
      have HY := Lib.hid (fun _ : Unit => hy)
      clear hy
      go_wp2_with fail
      refine bodyPost_ret (results_tmp2 rfl _ _ _) rfl ?_
      exact ⟨pair_post HW.out (HY.out ()).symm, HS1.out.trans (S2.mono HS1.out.size)⟩
set_option maxHeartbeats 2000000 in
theorem ref_Widen_double (x : Nat) (h : x < 2 ^ (1 + 11 + 52)) (w : World) :
    Calls Try.prog 32 #[.int .u64 x, .int .i64 8] w fun e w' => PairPost (Wide 11 52 0 x) e ∧ Below w.heap.size w w' := by
  have q0 : (x : Int) < 18446744073709551616 := by omega
  have HV := Lib.hid (ref_value_double x h)
  have HX := Lib.hid (fun _ : Unit => h)
  generalize (x : Int) = z at *
  clear h
  go_enter Try.func32, Try.ntmps32
  go_wp2_with fail
  refine (HV.out _).mono ?_
  rintro e w1 ⟨s, m, q, k, p, rfl, hv, hs, hm, hq, hp, S1⟩
  have HS1 := Lib.hid S1
  clear HV S1
  have hv0 := hv
  rcases hv0 with ⟨rfl, a, b⟩ | ⟨rfl, a, b, c, rfl⟩ | ⟨rfl, a, b, c⟩
  · have HW := Lib.hid (widen_nan (O := 0) (HX.out ()) a)
    clear hv hs hm hq hp a b
    generalize (s : Int) = sl at *
    generalize (m : Int) = ml at *
    rw [show ((2 : Nat) : Int) = 2 from rfl]
    go_wp2_with fail
    refine bodyPost_ret (results_tmp2 rfl _ _ _) rfl ?_
    exact ⟨pair_post HW.out rfl, HS1.out⟩
  · have HW := widen_inf .double (HX.out ()) a b
    rw [← c] at HW
    have HW := Lib.hid HW
    have HB := Lib.hid (ref_bits_double_inf s 0 hs p)
    clear hv hs hm hq hp a b c
    generalize hy : ((finf 11 52 s : Nat) : Int) = y at *
    generalize (s : Int) = sl at *
    rw [show ((0 : Nat) : Int) = 0 from rfl] at *
    rw [show ((1 : Nat) : Int) = 1 from rfl]
    have HY := Lib.hid (fun _ : Unit => hy)
    clear hy
    go_wp2_with (go_at_call 45; refine (HB.out _).mono ?_; rintro e w' ⟨rfl, rfl⟩)
    refine bodyPost_ret (results_tmp2 rfl _ _ _) rfl ?_
    exact ⟨pair_post HW.out (HY.out ()).symm, HS1.out⟩
  · by_cases hm0 : m = 0
    · subst hm0
      obtain ⟨z1, z2⟩ := value_zero hv rfl
      have HW := widen_zero .double (HX.out ()) z1 z2
      rw [← b] at HW
      have HW := Lib.hid HW
      have HB := Lib.hid (ref_bits_double_zero s hs p)
      clear hv hs hm hq hp a b c z1 z2
      generalize hy : ((s * 2 ^ (11 + 52) : Nat) : Int) = y at *
      generalize (s : Int) = sl at *
      rw [show ((0 : Nat) : Int) = 0 from rfl]
      have HY := Lib.hid (fun _ : Unit => hy)
      clear hy
      go_wp2_with (go_at_call 45; refine (HB.out _).mono ?_; rintro e w' ⟨rfl, rfl⟩)
      refine bodyPost_ret (results_tmp2 rfl _ _ _) rfl ?_
      exact ⟨pair_post HW.out (HY.out ()).symm, HS1.out⟩
    · have hpp := hp rfl hm0
      subst hpp
      have hodd : m % 2 = 1 := by
        rcases c with ⟨c, _⟩ | ⟨c, _⟩ <;> omega
      have HB := Lib.hid (ref_bits_double s m q hs hodd (by omega) (by omega))
      have HW := Lib.hid (fun z ok (hb : BitsTo 11 52 0 s m q z ok) => bits_wide .double (HX.out ()) hv rfl hm0 hb)
      clear hv hs hm hq hp a b c hm0 hodd
      generalize (s : Int) = sl at *
      generalize (m : Int) = ml at *
      generalize (q : Int) - 1074 = pl at *
      rw [show ((0 : Nat) : Int) = 0 from rfl]
      go_wp2_with fail
      refine (HB.out _).mono ?_
      rintro e w2 ⟨⟨y, ok, rfl, hb⟩, S2⟩
      have HW := Lib.hid (HW.out y ok hb)
      clear hb
      generalize hy : (y : Int) = yl at *
      have HY := Lib.hid (fun _ : Unit => hy)
      clear hy
      go_wp2_with fail
      refine bodyPost_ret (results_tmp2 rfl _ _ _) rfl ?_
      exact ⟨pair_post HW.out (HY.out ()).symm, HS1.out.trans (S2.mono HS1.out.size)⟩
end Go.Proofs.Ytchhbcmkhbfpoaa

/- The shortest float: of the document, of the code. -/
namespace Go.Proofs.Ytchhbcmkhbfpoaa
open Go.RowKit
set_option maxHeartbeats 2000000 in
theorem ref_Shortest (x : Nat) (h : x < 2 ^ (1 + 11 + 52)) (w : World) :
    Calls Try.prog 56 #[.int .u64 x] w fun e w' => SPost (Shortest x) e ∧ Below w.heap.size w w' := by
  have HV := Lib.hid (ref_value_double x h)
  have HX := Lib.hid (fun _ : Unit => h)
  generalize hx : (x : Int) = z at *
  have HZ := Lib.hid (fun _ : Unit => hx)
  clear h hx
  go_enter Try.func56, Try.ntmps56
  go_wp2_with fail
  refine (HV.out _).mono ?_
  rintro e w1 ⟨s, m, q, k, p, rfl, hv, hs, hm, hq, hp, S1⟩
  have HS1 := Lib.hid S1
  clear HV S1
  have hv0 := hv
  rcases hv0 with ⟨rfl, a, b⟩ | ⟨rfl, a, b, c, rfl⟩ | ⟨rfl, a, b, c⟩
  · have HW := Lib.hid (sh_nan a)
    clear hv hs hm hq hp a b
    generalize (s : Int) = sl at *
    generalize (m : Int) = ml at *
    rw [show ((2 : Nat) : Int) = 2 from rfl]
    go_wp2_with fail
    refine bodyPost_ret (results_tmp2 rfl _ _ _) rfl ?_
    exact ⟨s_post HW.out rfl rfl, HS1.out⟩
  · have HW := sh_inf (HX.out ()) a b
    rw [← c] at HW
    have HW := Lib.hid HW
    have HB := Lib.hid (ref_bits_half_inf s 0 hs p)
    clear hv hs hm hq hp a b c
    generalize hy : ((finf 5 10 s : Nat) : Int) = y at *
    generalize (s : Int) = sl at *
    rw [show ((0 : Nat) : Int) = 0 from rfl] at *
    rw [show ((1 : Nat) : Int) = 1 from rfl]
    have HY := Lib.hid (fun _ : Unit => hy)
    clear hy
    go_wp2_with (go_at_call 45; refine (HB.out _).mono ?_; rintro e w' ⟨rfl, rfl⟩)
    refine bodyPost_ret (results_tmp2 rfl _ _ _) rfl ?_
    exact ⟨s_post HW.out (HY.out ()).symm rfl, HS1.out⟩
  · by_cases hm0 : m = 0
    · subst hm0
      obtain ⟨z1, z2⟩ := value_zero hv rfl
      have HW := sh_zero (HX.out ()) z1 z2
      rw [← b] at HW
      have HW := Lib.hid HW
      have HB := Lib.hid (ref_bits_half_zero s hs p)
      clear hv hs hm hq hp a b c z1 z2
      generalize hy : ((s * 2 ^ (5 + 10) : Nat) : Int) = y at *
      generalize (s : Int) = sl at *
      rw [show ((0 : Nat) : Int) = 0 from rfl]
      have HY := Lib.hid (fun _ : Unit => hy)
      clear hy
      go_wp2_with (go_at_call 45; refine (HB.out _).mono ?_; rintro e w' ⟨rfl, rfl⟩)
      refine bodyPost_ret (results_tmp2 rfl _ _ _) rfl ?_
      exact ⟨s_post HW.out (HY.out ()).symm rfl, HS1.out⟩
    · have hpp := hp rfl hm0
      subst hpp
      have hodd : m % 2 = 1 := by
        rcases c with ⟨c, _⟩ | ⟨c, _⟩ <;> omega
      have HB := Lib.hid (ref_bits_half s m q hs hodd (by omega) (by omega))
      have HC := Lib.hid (ref_bits_single s m q hs hodd (by omega) (by omega))
      have HW := Lib.hid (fun z ok (hb : BitsTo 5 10 1050 s m q z ok) => bits_narrow .half (HX.out ()) hv rfl hm0 hb)
      have HU := Lib.hid (fun z ok (hb : BitsTo 8 23 925 s m q z ok) => bits_narrow .single (HX.out ()) hv rfl hm0 hb)
      have HN : Hid (¬ FNan 11 52 x) := Lib.hid (fun hn => by have := hn.1; omega)
      clear hv hs hm hq hp a b c hm0 hodd
      generalize (s : Int) = sl at *
      generalize (m : Int) = ml at *
      generalize (q : Int) - 1074 = pl at *
      rw [show ((0 : Nat) : Int) = 0 from rfl]
      go_wp2_with fail
      refine (HB.out _).mono ?_
      rintro e w2 ⟨⟨y, ok, rfl, hb⟩, S2⟩
      have HW := HW.out y ok hb
      have HS2 := Lib.hid (HS1.out.trans (S2.mono HS1.out.size))
      clear hb S2
      generalize hy : (y : Int) = yl at *
      have HY := Lib.hid (fun _ : Unit => hy)
      clear hy
      rcases HW with ⟨rfl, hw⟩ | ⟨rfl, hw⟩
      · have HR := Lib.hid (show Shortest x y 2 from Or.inr ⟨HN.out, Or.inl ⟨rfl, hw⟩⟩)
        clear hw
        go_wp2_with fail
        refine bodyPost_ret (results_tmp2 rfl _ _ _) rfl ?_
        exact ⟨s_post HR.out (HY.out ()).symm rfl, HS2.out⟩
      · have HNO := Lib.hid (fun _ : Unit => hw)
        clear hw
        go_wp2_with fail
        refine (HC.out _).mono ?_
        rintro e w3 ⟨⟨y2, ok, rfl, hb⟩, S3⟩
        have HU := HU.out y2 ok hb
        have HS3 := Lib.hid (HS2.out.trans (S3.mono HS2.out.size))
        clear hb S3
        generalize hy : (y2 : Int) = yl2 at *
        have HY2 := Lib.hid (fun _ : Unit => hy)
        clear hy
        rcases HU with ⟨rfl, hw⟩ | ⟨rfl, hw⟩
        · have HR := Lib.hid (show Shortest x y2 4 from Or.inr ⟨HN.out, Or.inr (Or.inl ⟨rfl, hw, HNO.out ()⟩)⟩)
          clear hw
          go_wp2_with fail
          refine bodyPost_ret (results_tmp2 rfl _ _ _) rfl ?_
          exact ⟨s_post HR.out (HY2.out ()).symm rfl, HS3.out⟩
        · have HR := Lib.hid (show Shortest x x 8 from Or.inr ⟨HN.out, Or.inr (Or.inr ⟨rfl, rfl, HNO.out (), hw⟩)⟩)
          clear hw
          go_wp2_with fail
          refine bodyPost_ret (results_tmp2 rfl _ _ _) rfl ?_
          exact ⟨s_post HR.out (HZ.out ()).symm rfl, HS3.out⟩

/-- What the code's loop knows ahead of the width i. -/
def LeftOff (x : Nat) (i : Int) : Prop := i = 2 ∨ (i = 4 ∧ ∀ y, ¬ Wide 5 10 1050 y x) ∨ (i = 8 ∧ (∀ y, ¬ Wide 5 10 1050 y x) ∧ ∀ y, ¬ Wide 8 23 925 y x)
set_option maxHeartbeats 4000000 in
theorem float_Shortest (x : Nat) (h : x < 2 ^ 64) (w : World) :
    Calls Try.prog 90 #[.int .u64 x] w fun e w' => SPost (Shortest x) e ∧ Below w.heap.size w w' := by
  have HNa := Lib.hid (float_NaN x h)
  by_cases hn : FNan 11 52 x
  · have HR := Lib.hid (sh_nan hn)
    rw [show decide (FNan 11 52 x) = true by simp [hn]] at HNa
    clear hn h
    generalize (x : Int) = z at *
    go_enter Try.func90, Try.ntmps90
    go_wp2_with (go_at_call 94; refine (HNa.out _).mono ?_; rintro e w1 ⟨rfl, S1⟩)
    refine bodyPost_ret (results_tmp2 rfl _ _ _) rfl ?_
    exact ⟨s_post HR.out rfl rfl, S1⟩
  · rw [show decide (FNan 11 52 x) = false by simp [hn]] at HNa
    have HN := Lib.hid hn
    have HX := Lib.hid (fun _ : Unit => h)
    have H2 := Lib.hid (float_narrow_half x h hn)
    have H4 := Lib.hid (float_narrow_single x h hn)
    generalize hx : (x : Int) = z at *
    have HZ := Lib.hid (fun _ : Unit => hx)
    clear hn h hx
    go_enter Try.func90, Try.ntmps90
    go_wp2_with (go_at_call 94; refine (HNa.out _).mono ?_; rintro e w1 ⟨rfl, S1⟩)
    have HS1 := Lib.hid S1
    clear S1
    go_loopw [4] (fun i wr => ∃ n : Int, i = .int .i64 n ∧ LeftOff x n ∧ Below w.heap.size w wr) (fun i _ => (8 - intOf i).toNat)
    case atStart => exact ⟨2, rfl, Or.inl rfl, HS1.out⟩
    case round =>
      obtain ⟨n, rfl, hl, S2⟩ := hrel
      have HS2 := Lib.hid S2
      clear S2
      rcases hl with rfl | ⟨rfl, hl⟩ | ⟨rfl, hl⟩
      · go_wp2_with fail
        refine (H2.out _).mono ?_
        rintro e w2 ⟨y, rfl, hy, hw, S3⟩
        have HWI := Lib.hid (float_Widen_half y hy)
        have HW := Lib.hid (fun _ : Unit => hw)
        have HS3 := Lib.hid (HS2.out.trans (S3.mono HS2.out.size))
        clear hy hw S3
        generalize hyl : (y : Int) = yl at *
        have HY := Lib.hid (fun _ : Unit => hyl)
        clear hyl
        go_wp2_with fail
        refine (HWI.out _).mono ?_
        rintro e w3 ⟨b, rfl, hb, S4⟩
        have HS4 := Lib.hid (HS3.out.trans (S4.mono HS3.out.size))
        by_cases hbx : b = x
        · have HR := Lib.hid (show Shortest x y 2 from Or.inr ⟨HN.out, Or.inl ⟨rfl, hbx ▸ hb⟩⟩)
          have hbz : (b : Int) = z := by rw [hbx]; exact HZ.out ()
          rw [hbz]
          clear hb S4 hbx hbz
          go_wp2_with fail
          refine bodyPost_ret (results_tmp2 rfl _ _ _) rfl ?_
          exact ⟨s_post HR.out (HY.out ()).symm rfl, HS4.out⟩
        · have HNO : Hid (∀ y', ¬ Wide 5 10 1050 y' x) := Lib.hid (fun y' hw' => hbx (wide_fun .half hb (by rw [HW.out () y' hw']; exact hw')))
          have hbz : ((b : Int) == z) = false := by
            have := HZ.out ()
            simp
            omega
          clear hb S4 hbx
          generalize (b : Int) = bl at *
          go_wp2_with fail
          go_roundw
          case rel => exact ⟨4, rfl, Or.inr (Or.inl ⟨rfl, HNO.out⟩), HS4.out⟩
          case measure => simp [intOf]
      · have HL := Lib.hid (fun _ : Unit => hl)
        clear hl
        go_wp2_with fail
        refine (H4.out _).mono ?_
        rintro e w2 ⟨y, rfl, hy, hw, S3⟩
        have HWI := Lib.hid (float_Widen_single y hy)
        have HW := Lib.hid (fun _ : Unit => hw)
        have HS3 := Lib.hid (HS2.out.trans (S3.mono HS2.out.size))
        clear hy hw S3
        generalize hyl : (y : Int) = yl at *
        have HY := Lib.hid (fun _ : Unit => hyl)
        clear hyl
        go_wp2_with fail
        refine (HWI.out _).mono ?_
        rintro e w3 ⟨b, rfl, hb, S4⟩
        have HS4 := Lib.hid (HS3.out.trans (S4.mono HS3.out.size))
        by_cases hbx : b = x
        · have HR := Lib.hid (show Shortest x y 4 from Or.inr ⟨HN.out, Or.inr (Or.inl ⟨rfl, hbx ▸ hb, HL.out ()⟩)⟩)
          have hbz : (b : Int) = z := by rw [hbx]; exact HZ.out ()
          rw [hbz]
          clear hb S4 hbx hbz
          go_wp2_with fail
          refine bodyPost_ret (results_tmp2 rfl _ _ _) rfl ?_
          exact ⟨s_post HR.out (HY.out ()).symm rfl, HS4.out⟩
        · have HNO : Hid (∀ y', ¬ Wide 8 23 925 y' x) := Lib.hid (fun y' hw' => hbx (wide_fun .single hb (by rw [HW.out () y' hw']; exact hw')))
          have hbz : ((b : Int) == z) = false := by
            have := HZ.out ()
            simp
            omega
          clear hb S4 hbx
          generalize (b : Int) = bl at *
          go_wp2_with fail
          go_roundw
          case rel => exact ⟨8, rfl, Or.inr (Or.inr ⟨rfl, HL.out (), HNO.out⟩), HS4.out⟩
          case measure => simp [intOf]
      · have HR := Lib.hid (show Shortest x x 8 from Or.inr ⟨HN.out, Or.inr (Or.inr ⟨rfl, rfl, hl⟩)⟩)
        clear hl
        go_wp2_with fail
        refine bodyPost_ret (results_tmp2 rfl _ _ _) rfl ?_
        exact ⟨s_post HR.out (HZ.out ()).symm rfl, HS2.out⟩
end Go.Proofs.Ytchhbcmkhbfpoaa
