/- The document's float: bits. -/
import Derived.Test.YtchhbcmkhbfpoaaKAL
namespace Go.Proofs.Ytchhbcmkhbfpoaa
open Go.RowKit
/-- m, doubled j times, is M. -/
def Raised (m j M : Nat) : Prop := M = m * 2 ^ j
theorem raised_step {m j M : Nat} (h : Raised m j M) : Raised m (j + 1) (M * 2) := by
  unfold Raised at *
  rw [h, Nat.pow_succ, Nat.mul_assoc]
def BitsPost (E F O s m q : Nat) (e : Ending) : Prop := ∃ (z : Nat) (ok : Bool), e = .returned (.tuple #[.int .u64 z, .bool ok]) ∧ BitsTo E F O s m q z ok
theorem bits_post {E F O s m q z : Nat} {ok : Bool} {zi : Int} (h : BitsTo E F O s m q z ok) (hz : zi = z) : BitsPost E F O s m q (.returned (.tuple #[.int .u64 zi, .bool ok])) := ⟨z, ok, by rw [hz], h⟩
theorem raised_value {m j M q q' : Nat} (h : Raised m j M) (hq : q' + j = q) : M * 2 ^ q' = m * 2 ^ q := by
  unfold Raised at h
  rw [h, ← hq, Nat.mul_assoc, ← Nat.pow_add, Nat.add_comm j]
set_option maxHeartbeats 2000000 in
theorem ref_bits_half_inf (s m : Nat) (hs : s < 2) (p : Int) (w : World) :
    Calls Try.prog 45 #[.int .u64 s, .int .u64 m, .int .i64 p, .int .i64 1, .int .i64 5, .int .i64 10] w fun e w' => e = .returned (.tuple #[.int .u64 ((finf 5 10 s : Nat) : Int), .bool true]) ∧ w = w' := by
  have s0 : (0 : Int) ≤ s := by omega
  have s1 : (s : Int) < 2 := by omega
  have HF : Hid (Unit → (s : Int) * 32768 + 31744 = ((finf 5 10 s : Nat) : Int)) := Lib.hid (fun _ => by unfold finf; omega)
  generalize ((finf 5 10 s : Nat) : Int) = y at *
  generalize (s : Int) = sl at *
  generalize (m : Int) = ml at *
  clear hs
  go_enter Try.func45, Try.ntmps45
  go_wp2_with fail
  go_ret2
  exact ⟨by rw [← HF.out ()]; rfl, rfl⟩
set_option maxHeartbeats 2000000 in
theorem ref_bits_half_zero (s : Nat) (hs : s < 2) (p : Int) (w : World) :
    Calls Try.prog 45 #[.int .u64 s, .int .u64 0, .int .i64 p, .int .i64 0, .int .i64 5, .int .i64 10] w fun e w' => e = .returned (.tuple #[.int .u64 ((s * 2 ^ (5 + 10) : Nat) : Int), .bool true]) ∧ w = w' := by
  have s0 : (0 : Int) ≤ s := by omega
  have s1 : (s : Int) < 2 := by omega
  have HF : Hid (Unit → (s : Int) * 32768 = ((s * 2 ^ (5 + 10) : Nat) : Int)) := Lib.hid (fun _ => by omega)
  generalize ((s * 2 ^ (5 + 10) : Nat) : Int) = y at *
  generalize (s : Int) = sl at *
  clear hs
  go_enter Try.func45, Try.ntmps45
  go_wp2_with fail
  go_ret2
  exact ⟨by rw [← HF.out ()]; rfl, rfl⟩
set_option maxHeartbeats 4000000 in
theorem ref_bits_half (s m q : Nat) (hs : s < 2) (hm : m % 2 = 1) (hml : m < 2 ^ 60) (hq : q ≤ 3100) (w : World) :
    Calls Try.prog 45 #[.int .u64 s, .int .u64 m, .int .i64 ((q : Int) - 1074), .int .i64 0, .int .i64 5, .int .i64 10] w fun e w' => BitsPost 5 10 1050 s m q e ∧ Below w.heap.size w w' := by
  have s0 : (0 : Int) ≤ s := by omega
  have s1 : (s : Int) < 2 := by omega
  have m0 : (0 : Int) < m := by omega
  have m1 : (m : Int) < 1152921504606846976 := by omega
  have p0 : -1074 ≤ (q : Int) - 1074 := by omega
  have p1 : (q : Int) - 1074 < 3000 := by omega
  have HM : Hid (Unit → m % 2 = 1) := Lib.hid (fun _ => hm)
  by_cases hlow : q < 1050
  · have HB := Lib.hid (bits_low .half (s := s) hm hlow)
    have p2 : (q : Int) - 1074 < -24 := by omega
    generalize (s : Int) = sl at *
    generalize (m : Int) = ml at *
    generalize (q : Int) - 1074 = p at *
    clear hs hm hml hq hlow
    go_enter Try.func45, Try.ntmps45
    go_wp2_with fail
    refine bodyPost_ret (results_tmp2 rfl _ _ _) rfl ?_
    exact ⟨bits_post HB.out rfl, Below.refl _ _⟩
  · have p2 : ¬ ((q : Int) - 1074 < -24) := by omega
    have HS := Lib.hid (fun _ : Unit => hs)
    have HQ := Lib.hid (fun _ : Unit => hq)
    have HO : Hid (Unit → 1050 ≤ q) := Lib.hid (fun _ => by omega)
    have HML := Lib.hid (fun _ : Unit => hml)
    generalize hsl : (s : Int) = sl at *
    generalize hm2 : (m : Int) = ml at *
    generalize hp2 : (q : Int) - 1074 = p at *
    have HSL := Lib.hid (fun _ : Unit => hsl)
    have HMM := Lib.hid (fun _ : Unit => hm2)
    have HP := Lib.hid (fun _ : Unit => hp2)
    clear hs hm hml hq hlow hsl hm2 hp2
    go_enter Try.func45, Try.ntmps45
    go_wp2_with fail
    generalize hsp : sl * 32768 = so
    have HSO := Lib.hid (fun _ : Unit => hsp)
    have o0 : 0 ≤ so := by omega
    have o1 : so ≤ 32768 := by omega
    clear hsp s0 s1
    go_loop [1, 2] (fun a b => ∃ j mm : Nat, a = .int .u64 mm ∧ b = .int .i64 (p - j) ∧ Raised m j mm ∧ 1050 + j ≤ q ∧ (j = 0 ∨ mm < 2 ^ (10 + 1)) ∧ 0 < mm ∧ mm < 2 ^ 60) (fun _ b => (intOf b + 4000).toNat)
    case atStart => exact ⟨0, m, by rw [HMM.out ()], by simp, by unfold Raised; simp, by have := HO.out (); omega, Or.inl rfl, by have := HM.out (); omega, HML.out ()⟩
    case round =>
      obtain ⟨j, mm, rfl, rfl, hR, hjq, hj0, hm0, hml2⟩ := hrel
      have HR := Lib.hid hR
      have HJQ := Lib.hid (fun _ : Unit => hjq)
      have HJ0 := Lib.hid (fun _ : Unit => hj0)
      have HML2 := Lib.hid (fun _ : Unit => hml2)
      have HM0 := Lib.hid (fun _ : Unit => hm0)
      have n0 : (0 : Int) < mm := by omega
      have n1 : (mm : Int) < 1152921504606846976 := by omega
      have k0 : (0 : Int) ≤ j := by omega
      have k1 : (j : Int) ≤ 3100 := by have := HQ.out (); omega
      have k2 : -24 ≤ p - j := by have := HP.out (); omega
      clear hR hjq hj0 hml2 hm0
      generalize hn : (mm : Int) = n at *
      generalize hjl : (j : Int) = jl at *
      have HN := Lib.hid (fun _ : Unit => hn)
      have HJL := Lib.hid (fun _ : Unit => hjl)
      clear hn hjl
      by_cases c1 : n < 1024
      · by_cases c2 : -24 < p - jl
        · go_wp2_with fail
          go_round
          case rel =>
            have a1 := HN.out ()
            have a2 := HJL.out ()
            have a3 := HJQ.out ()
            have a4 := HP.out ()
            have a5 := HML2.out ()
            exact ⟨j + 1, mm * 2, val_num (by omega), val_num (by omega), raised_step HR.out, by omega, Or.inr (by omega), by omega, by omega⟩
          case measure => simp [intOf]; omega
        · go_wp2_with fail
          refine bodyPost_ret (results_tmp2 rfl _ _ _) rfl ?_
          have a1 := HN.out ()
          have a2 := HJL.out ()
          have a3 := HJQ.out ()
          have a4 := HP.out ()
          have a5 := HSO.out ()
          have a6 := HSL.out ()
          have hq : q = 1050 + j := by omega
          have e1 : fenc 5 10 1050 s mm (q - j) = s * 2 ^ (5 + 10) + mm := by unfold fenc; rw [if_pos (by omega)]
          have HB := bits_fits .half (HS.out ()) (show FNF 10 1050 mm (q - j) from ⟨by omega, by omega, Or.inr (by omega)⟩) (raised_value HR.out (show q - j + j = q by omega)) (by omega)
          have e2 : so + n = ((fenc 5 10 1050 s mm (q - j) : Nat) : Int) := by rw [e1]; omega
          exact ⟨bits_post HB e2, Below.refl _ _⟩
      · by_cases c3 : 2048 ≤ n
        · go_wp2_with fail
          refine bodyPost_ret (results_tmp2 rfl _ _ _) rfl ?_
          have a1 := HN.out ()
          have hj := HJ0.out ()
          have hj : j = 0 := by omega
          subst hj
          have hR := HR.out
          unfold Raised at hR
          exact ⟨bits_post (bits_big .half (HM.out ()) (by omega)) rfl, Below.refl _ _⟩
        · by_cases c4 : 31 ≤ p - jl + 15 + 10
          · go_wp2_with fail
            refine bodyPost_ret (results_tmp2 rfl _ _ _) rfl ?_
            have a1 := HN.out ()
            have a2 := HJL.out ()
            have a3 := HJQ.out ()
            have a4 := HP.out ()
            exact ⟨bits_post (bits_over .half (show FNF 10 1050 mm (q - j) from ⟨by omega, by omega, Or.inl (by omega)⟩) (raised_value HR.out (by omega)) (by omega) (by omega)) rfl, Below.refl _ _⟩
          · go_wp2_with fail
            go_quiet (fail)
            go_wp2_with fail
            refine bodyPost_ret (results_tmp2 rfl _ _ _) rfl ?_
            have a1 := HN.out ()
            have a2 := HJL.out ()
            have a3 := HJQ.out ()
            have a4 := HP.out ()
            have a5 := HSO.out ()
            have a6 := HSL.out ()
            have HB := bits_fits .half (HS.out ()) (show FNF 10 1050 mm (q - j) from ⟨by omega, by omega, Or.inl (by omega)⟩) (raised_value HR.out (show q - j + j = q by omega)) (by omega)
            have e1 : fenc 5 10 1050 s mm (q - j) = s * 2 ^ (5 + 10) + ((q - j - 1050 + 1) * 2 ^ 10 + (mm - 2 ^ 10)) := by unfold fenc; rw [if_neg (by omega)]
            have e2 : so + (p - jl + 15 + 10) * 1024 + n - 1024 = ((fenc 5 10 1050 s mm (q - j) : Nat) : Int) := by rw [e1]; omega
            exact ⟨bits_post HB e2, below_drawnN (Below.refl _ _) _⟩
set_option maxHeartbeats 2000000 in
theorem ref_bits_single_inf (s m : Nat) (hs : s < 2) (p : Int) (w : World) :
    Calls Try.prog 45 #[.int .u64 s, .int .u64 m, .int .i64 p, .int .i64 1, .int .i64 8, .int .i64 23] w fun e w' => e = .returned (.tuple #[.int .u64 ((finf 8 23 s : Nat) : Int), .bool true]) ∧ w = w' := by
  have s0 : (0 : Int) ≤ s := by omega
  have s1 : (s : Int) < 2 := by omega
  have HF : Hid (Unit → (s : Int) * 2147483648 + 2139095040 = ((finf 8 23 s : Nat) : Int)) := Lib.hid (fun _ => by unfold finf; omega)
  generalize ((finf 8 23 s : Nat) : Int) = y at *
  generalize (s : Int) = sl at *
  generalize (m : Int) = ml at *
  clear hs
  go_enter Try.func45, Try.ntmps45
  go_wp2_with fail
  go_ret2
  exact ⟨by rw [← HF.out ()]; rfl, rfl⟩
set_option maxHeartbeats 2000000 in
theorem ref_bits_single_zero (s : Nat) (hs : s < 2) (p : Int) (w : World) :
    Calls Try.prog 45 #[.int .u64 s, .int .u64 0, .int .i64 p, .int .i64 0, .int .i64 8, .int .i64 23] w fun e w' => e = .returned (.tuple #[.int .u64 ((s * 2 ^ (8 + 23) : Nat) : Int), .bool true]) ∧ w = w' := by
  have s0 : (0 : Int) ≤ s := by omega
  have s1 : (s : Int) < 2 := by omega
  have HF : Hid (Unit → (s : Int) * 2147483648 = ((s * 2 ^ (8 + 23) : Nat) : Int)) := Lib.hid (fun _ => by omega)
  generalize ((s * 2 ^ (8 + 23) : Nat) : Int) = y at *
  generalize (s : Int) = sl at *
  clear hs
  go_enter Try.func45, Try.ntmps45
  go_wp2_with fail
  go_ret2
  exact ⟨by rw [← HF.out ()]; rfl, rfl⟩
set_option maxHeartbeats 4000000 in
theorem ref_bits_single (s m q : Nat) (hs : s < 2) (hm : m % 2 = 1) (hml : m < 2 ^ 60) (hq : q ≤ 3100) (w : World) :
    Calls Try.prog 45 #[.int .u64 s, .int .u64 m, .int .i64 ((q : Int) - 1074), .int .i64 0, .int .i64 8, .int .i64 23] w fun e w' => BitsPost 8 23 925 s m q e ∧ Below w.heap.size w w' := by
  have s0 : (0 : Int) ≤ s := by omega
  have s1 : (s : Int) < 2 := by omega
  have m0 : (0 : Int) < m := by omega
  have m1 : (m : Int) < 1152921504606846976 := by omega
  have p0 : -1074 ≤ (q : Int) - 1074 := by omega
  have p1 : (q : Int) - 1074 < 3000 := by omega
  have HM : Hid (Unit → m % 2 = 1) := Lib.hid (fun _ => hm)
  by_cases hlow : q < 925
  · have HB := Lib.hid (bits_low .single (s := s) hm hlow)
    have p2 : (q : Int) - 1074 < -149 := by omega
    generalize (s : Int) = sl at *
    generalize (m : Int) = ml at *
    generalize (q : Int) - 1074 = p at *
    clear hs hm hml hq hlow
    go_enter Try.func45, Try.ntmps45
    go_wp2_with fail
    refine bodyPost_ret (results_tmp2 rfl _ _ _) rfl ?_
    exact ⟨bits_post HB.out rfl, Below.refl _ _⟩
  · have p2 : ¬ ((q : Int) - 1074 < -149) := by omega
    have HS := Lib.hid (fun _ : Unit => hs)
    have HQ := Lib.hid (fun _ : Unit => hq)
    have HO : Hid (Unit → 925 ≤ q) := Lib.hid (fun _ => by omega)
    have HML := Lib.hid (fun _ : Unit => hml)
    generalize hsl : (s : Int) = sl at *
    generalize hm2 : (m : Int) = ml at *
    generalize hp2 : (q : Int) - 1074 = p at *
    have HSL := Lib.hid (fun _ : Unit => hsl)
    have HMM := Lib.hid (fun _ : Unit => hm2)
    have HP := Lib.hid (fun _ : Unit => hp2)
    clear hs hm hml hq hlow hsl hm2 hp2
    go_enter Try.func45, Try.ntmps45
    go_wp2_with fail
    generalize hsp : sl * 2147483648 = so
    have HSO := Lib.hid (fun _ : Unit => hsp)
    have o0 : 0 ≤ so := by omega
    have o1 : so ≤ 2147483648 := by omega
    clear hsp s0 s1
    go_loop [1, 2] (fun a b => ∃ j mm : Nat, a = .int .u64 mm ∧ b = .int .i64 (p - j) ∧ Raised m j mm ∧ 925 + j ≤ q ∧ (j = 0 ∨ mm < 2 ^ (23 + 1)) ∧ 0 < mm ∧ mm < 2 ^ 60) (fun _ b => (intOf b + 4000).toNat)
    case atStart => exact ⟨0, m, by rw [HMM.out ()], by simp, by unfold Raised; simp, by have := HO.out (); omega, Or.inl rfl, by have := HM.out (); omega, HML.out ()⟩
    case round =>
      obtain ⟨j, mm, rfl, rfl, hR, hjq, hj0, hm0, hml2⟩ := hrel
      have HR := Lib.hid hR
      have HJQ := Lib.hid (fun _ : Unit => hjq)
      have HJ0 := Lib.hid (fun _ : Unit => hj0)
      have HML2 := Lib.hid (fun _ : Unit => hml2)
      have HM0 := Lib.hid (fun _ : Unit => hm0)
      have n0 : (0 : Int) < mm := by omega
      have n1 : (mm : Int) < 1152921504606846976 := by omega
      have k0 : (0 : Int) ≤ j := by omega
      have k1 : (j : Int) ≤ 3100 := by have := HQ.out (); omega
      have k2 : -149 ≤ p - j := by have := HP.out (); omega
      clear hR hjq hj0 hml2 hm0
      generalize hn : (mm : Int) = n at *
      generalize hjl : (j : Int) = jl at *
      have HN := Lib.hid (fun _ : Unit => hn)
      have HJL := Lib.hid (fun _ : Unit => hjl)
      clear hn hjl
      by_cases c1 : n < 8388608
      · by_cases c2 : -149 < p - jl
        · go_wp2_with fail
          go_round
          case rel =>
            have a1 := HN.out ()
            have a2 := HJL.out ()
            have a3 := HJQ.out ()
            have a4 := HP.out ()
            have a5 := HML2.out ()
            exact ⟨j + 1, mm * 2, val_num (by omega), val_num (by omega), raised_step HR.out, by omega, Or.inr (by omega), by omega, by omega⟩
          case measure => simp [intOf]; omega
        · go_wp2_with fail
          refine bodyPost_ret (results_tmp2 rfl _ _ _) rfl ?_
          have a1 := HN.out ()
          have a2 := HJL.out ()
          have a3 := HJQ.out ()
          have a4 := HP.out ()
          have a5 := HSO.out ()
          have a6 := HSL.out ()
          have hq : q = 925 + j := by omega
          have e1 : fenc 8 23 925 s mm (q - j) = s * 2 ^ (8 + 23) + mm := by unfold fenc; rw [if_pos (by omega)]
          have HB := bits_fits .single (HS.out ()) (show FNF 23 925 mm (q - j) from ⟨by omega, by omega, Or.inr (by omega)⟩) (raised_value HR.out (show q - j + j = q by omega)) (by omega)
          have e2 : so + n = ((fenc 8 23 925 s mm (q - j) : Nat) : Int) := by rw [e1]; omega
          exact ⟨bits_post HB e2, Below.refl _ _⟩
      · by_cases c3 : 16777216 ≤ n
        · go_wp2_with fail
          refine bodyPost_ret (results_tmp2 rfl _ _ _) rfl ?_
          have a1 := HN.out ()
          have hj := HJ0.out ()
          have hj : j = 0 := by omega
          subst hj
          have hR := HR.out
          unfold Raised at hR
          exact ⟨bits_post (bits_big .single (HM.out ()) (by omega)) rfl, Below.refl _ _⟩
        · by_cases c4 : 255 ≤ p - jl + 127 + 23
          · go_wp2_with fail
            refine bodyPost_ret (results_tmp2 rfl _ _ _) rfl ?_
            have a1 := HN.out ()
            have a2 := HJL.out ()
            have a3 := HJQ.out ()
            have a4 := HP.out ()
            exact ⟨bits_post (bits_over .single (show FNF 23 925 mm (q - j) from ⟨by omega, by omega, Or.inl (by omega)⟩) (raised_value HR.out (by omega)) (by omega) (by omega)) rfl, Below.refl _ _⟩
          · go_wp2_with fail
            go_quiet (fail)
            go_wp2_with fail
            refine bodyPost_ret (results_tmp2 rfl _ _ _) rfl ?_
            have a1 := HN.out ()
            have a2 := HJL.out ()
            have a3 := HJQ.out ()
            have a4 := HP.out ()
            have a5 := HSO.out ()
            have a6 := HSL.out ()
            have HB := bits_fits .single (HS.out ()) (show FNF 23 925 mm (q - j) from ⟨by omega, by omega, Or.inl (by omega)⟩) (raised_value HR.out (show q - j + j = q by omega)) (by omega)
            have e1 : fenc 8 23 925 s mm (q - j) = s * 2 ^ (8 + 23) + ((q - j - 925 + 1) * 2 ^ 23 + (mm - 2 ^ 23)) := by unfold fenc; rw [if_neg (by omega)]
            have e2 : so + (p - jl + 127 + 23) * 8388608 + n - 8388608 = ((fenc 8 23 925 s mm (q - j) : Nat) : Int) := by rw [e1]; omega
            exact ⟨bits_post HB e2, below_drawnN (Below.refl _ _) _⟩
set_option maxHeartbeats 2000000 in
theorem ref_bits_double_inf (s m : Nat) (hs : s < 2) (p : Int) (w : World) :
    Calls Try.prog 45 #[.int .u64 s, .int .u64 m, .int .i64 p, .int .i64 1, .int .i64 11, .int .i64 52] w fun e w' => e = .returned (.tuple #[.int .u64 ((finf 11 52 s : Nat) : Int), .bool true]) ∧ w = w' := by
  have s0 : (0 : Int) ≤ s := by omega
  have s1 : (s : Int) < 2 := by omega
  have HF : Hid (Unit → (s : Int) * 9223372036854775808 + 9218868437227405312 = ((finf 11 52 s : Nat) : Int)) := Lib.hid (fun _ => by unfold finf; omega)
  generalize ((finf 11 52 s : Nat) : Int) = y at *
  generalize (s : Int) = sl at *
  generalize (m : Int) = ml at *
  clear hs
  go_enter Try.func45, Try.ntmps45
  go_wp2_with fail
  go_ret2
  exact ⟨by rw [← HF.out ()]; rfl, rfl⟩
set_option maxHeartbeats 2000000 in
theorem ref_bits_double_zero (s : Nat) (hs : s < 2) (p : Int) (w : World) :
    Calls Try.prog 45 #[.int .u64 s, .int .u64 0, .int .i64 p, .int .i64 0, .int .i64 11, .int .i64 52] w fun e w' => e = .returned (.tuple #[.int .u64 ((s * 2 ^ (11 + 52) : Nat) : Int), .bool true]) ∧ w = w' := by
  have s0 : (0 : Int) ≤ s := by omega
  have s1 : (s : Int) < 2 := by omega
  have HF : Hid (Unit → (s : Int) * 9223372036854775808 = ((s * 2 ^ (11 + 52) : Nat) : Int)) := Lib.hid (fun _ => by omega)
  generalize ((s * 2 ^ (11 + 52) : Nat) : Int) = y at *
  generalize (s : Int) = sl at *
  clear hs
  go_enter Try.func45, Try.ntmps45
  go_wp2_with fail
  go_ret2
  exact ⟨by rw [← HF.out ()]; rfl, rfl⟩
set_option maxHeartbeats 4000000 in
theorem ref_bits_double (s m q : Nat) (hs : s < 2) (hm : m % 2 = 1) (hml : m < 2 ^ 60) (hq : q ≤ 3100) (w : World) :
    Calls Try.prog 45 #[.int .u64 s, .int .u64 m, .int .i64 ((q : Int) - 1074), .int .i64 0, .int .i64 11, .int .i64 52] w fun e w' => BitsPost 11 52 0 s m q e ∧ Below w.heap.size w w' := by
  have s0 : (0 : Int) ≤ s := by omega
  have s1 : (s : Int) < 2 := by omega
  have m0 : (0 : Int) < m := by omega
  have m1 : (m : Int) < 1152921504606846976 := by omega
  have p0 : -1074 ≤ (q : Int) - 1074 := by omega
  have p1 : (q : Int) - 1074 < 3000 := by omega
  have HM : Hid (Unit → m % 2 = 1) := Lib.hid (fun _ => hm)
  by_cases hlow : q < 0
  · have HB := Lib.hid (bits_low .double (s := s) hm hlow)
    have p2 : (q : Int) - 1074 < -1074 := by omega
    omega
  · have p2 : ¬ ((q : Int) - 1074 < -1074) := by omega
    have HS := Lib.hid (fun _ : Unit => hs)
    have HQ := Lib.hid (fun _ : Unit => hq)
    have HO : Hid (Unit → 0 ≤ q) := Lib.hid (fun _ => by omega)
    have HML := Lib.hid (fun _ : Unit => hml)
    generalize hsl : (s : Int) = sl at *
    generalize hm2 : (m : Int) = ml at *
    generalize hp2 : (q : Int) - 1074 = p at *
    have HSL := Lib.hid (fun _ : Unit => hsl)
    have HMM := Lib.hid (fun _ : Unit => hm2)
    have HP := Lib.hid (fun _ : Unit => hp2)
    clear hs hm hml hq hlow hsl hm2 hp2
    go_enter Try.func45, Try.ntmps45
    go_wp2_with fail
    generalize hsp : sl * 9223372036854775808 = so
    have HSO := Lib.hid (fun _ : Unit => hsp)
    have o0 : 0 ≤ so := by omega
    have o1 : so ≤ 9223372036854775808 := by omega
    clear hsp s0 s1
    go_loop [1, 2] (fun a b => ∃ j mm : Nat, a = .int .u64 mm ∧ b = .int .i64 (p - j) ∧ Raised m j mm ∧ 0 + j ≤ q ∧ (j = 0 ∨ mm < 2 ^ (52 + 1)) ∧ 0 < mm ∧ mm < 2 ^ 60) (fun _ b => (intOf b + 4000).toNat)
    case atStart => exact ⟨0, m, by rw [HMM.out ()], by simp, by unfold Raised; simp, by have := HO.out (); omega, Or.inl rfl, by have := HM.out (); omega, HML.out ()⟩
    case round =>
      obtain ⟨j, mm, rfl, rfl, hR, hjq, hj0, hm0, hml2⟩ := hrel
      have HR := Lib.hid hR
      have HJQ := Lib.hid (fun _ : Unit => hjq)
      have HJ0 := Lib.hid (fun _ : Unit => hj0)
      have HML2 := Lib.hid (fun _ : Unit => hml2)
      have HM0 := Lib.hid (fun _ : Unit => hm0)
      have n0 : (0 : Int) < mm := by omega
      have n1 : (mm : Int) < 1152921504606846976 := by omega
      have k0 : (0 : Int) ≤ j := by omega
      have k1 : (j : Int) ≤ 3100 := by have := HQ.out (); omega
      have k2 : -1074 ≤ p - j := by have := HP.out (); omega
      clear hR hjq hj0 hml2 hm0
      generalize hn : (mm : Int) = n at *
      generalize hjl : (j : Int) = jl at *
      have HN := Lib.hid (fun _ : Unit => hn)
      have HJL := Lib.hid (fun _ : Unit => hjl)
      clear hn hjl
      by_cases c1 : n < 4503599627370496
      · by_cases c2 : -1074 < p - jl
        · go_wp2_with fail
          go_round
          case rel =>
            have a1 := HN.out ()
            have a2 := HJL.out ()
            have a3 := HJQ.out ()
            have a4 := HP.out ()
            have a5 := HML2.out ()
            exact ⟨j + 1, mm * 2, val_num (by omega), val_num (by omega), raised_step HR.out, by omega, Or.inr (by omega), by omega, by omega⟩
          case measure => simp [intOf]; omega
        · go_wp2_with fail
          refine bodyPost_ret (results_tmp2 rfl _ _ _) rfl ?_
          have a1 := HN.out ()
          have a2 := HJL.out ()
          have a3 := HJQ.out ()
          have a4 := HP.out ()
          have a5 := HSO.out ()
          have a6 := HSL.out ()
          have hq : q = 0 + j := by omega
          have e1 : fenc 11 52 0 s mm (q - j) = s * 2 ^ (11 + 52) + mm := by unfold fenc; rw [if_pos (by omega)]
          have HB := bits_fits .double (HS.out ()) (show FNF 52 0 mm (q - j) from ⟨by omega, by omega, Or.inr (by omega)⟩) (raised_value HR.out (show q - j + j = q by omega)) (by omega)
          have e2 : so + n = ((fenc 11 52 0 s mm (q - j) : Nat) : Int) := by rw [e1]; omega
          exact ⟨bits_post HB e2, Below.refl _ _⟩
      · by_cases c3 : 9007199254740992 ≤ n
        · go_wp2_with fail
          refine bodyPost_ret (results_tmp2 rfl _ _ _) rfl ?_
          have a1 := HN.out ()
          have hj := HJ0.out ()
          have hj : j = 0 := by omega
          subst hj
          have hR := HR.out
          unfold Raised at hR
          exact ⟨bits_post (bits_big .double (HM.out ()) (by omega)) rfl, Below.refl _ _⟩
        · by_cases c4 : 2047 ≤ p - jl + 1023 + 52
          · go_wp2_with fail
            refine bodyPost_ret (results_tmp2 rfl _ _ _) rfl ?_
            have a1 := HN.out ()
            have a2 := HJL.out ()
            have a3 := HJQ.out ()
            have a4 := HP.out ()
            exact ⟨bits_post (bits_over .double (show FNF 52 0 mm (q - j) from ⟨by omega, by omega, Or.inl (by omega)⟩) (raised_value HR.out (by omega)) (by omega) (by omega)) rfl, Below.refl _ _⟩
          · go_wp2_with fail
            go_quiet (fail)
            go_wp2_with fail
            refine bodyPost_ret (results_tmp2 rfl _ _ _) rfl ?_
            have a1 := HN.out ()
            have a2 := HJL.out ()
            have a3 := HJQ.out ()
            have a4 := HP.out ()
            have a5 := HSO.out ()
            have a6 := HSL.out ()
            have HB := bits_fits .double (HS.out ()) (show FNF 52 0 mm (q - j) from ⟨by omega, by omega, Or.inl (by omega)⟩) (raised_value HR.out (show q - j + j = q by omega)) (by omega)
            have e1 : fenc 11 52 0 s mm (q - j) = s * 2 ^ (11 + 52) + ((q - j - 0 + 1) * 2 ^ 52 + (mm - 2 ^ 52)) := by unfold fenc; rw [if_neg (by omega)]
            have e2 : so + (p - jl + 1023 + 52) * 4503599627370496 + n - 4503599627370496 = ((fenc 11 52 0 s mm (q - j) : Nat) : Int) := by rw [e1]; omega
            exact ⟨bits_post HB e2, below_drawnN (Below.refl _ _) _⟩
end Go.Proofs.Ytchhbcmkhbfpoaa
