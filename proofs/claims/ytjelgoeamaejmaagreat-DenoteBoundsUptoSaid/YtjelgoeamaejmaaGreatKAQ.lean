/- Package float: a NaN, a float put together. -/
import Derived.Test.YtjelgoeamaejmaaGreatKAP
namespace Go.Proofs.YtjelgoeamaejmaaGreat
open Go.RowKit
section
variable {W E F M B : Int} {ne nf O : Nat}
theorem or_parts {s e f a b : Nat} (hs : s < 2) (he : e < 2 ^ a) (hf : f < 2 ^ b) (hab : 1 + a + b ≤ 64) :
    bits .or .u64 (bits .or .u64 ((s * 2 ^ (a + b) : Nat) : Int) ((e * 2 ^ b : Nat) : Int)) (f : Int) = ((s * 2 ^ (a + b) + e * 2 ^ b + f : Nat) : Int) := by
  have h0 : 2 ^ (1 + a + b) ≤ 2 ^ 64 := Nat.pow_le_pow_right (by decide) hab
  have e1 : 2 ^ (1 + a + b) = 2 * (2 ^ a * 2 ^ b) := by rw [Nat.pow_add, Nat.pow_add, Nat.pow_one, Nat.mul_assoc]
  have e2 : 2 ^ (a + b) = 2 ^ a * 2 ^ b := Nat.pow_add 2 a b
  have h1 : e * 2 ^ b + f < 2 ^ a * 2 ^ b := by
    have := Nat.mul_le_mul_right (2 ^ b) (show e + 1 ≤ 2 ^ a from he)
    rw [Nat.add_mul] at this
    omega
  have h2 : s * 2 ^ (a + b) ≤ 1 * 2 ^ (a + b) := Nat.mul_le_mul_right _ (by omega)
  rw [bits_or_u64_nat _ _ (by omega) (by omega)]
  have j1 : s * 2 ^ (a + b) ||| e * 2 ^ b = s * 2 ^ (a + b) + e * 2 ^ b := nat_join (a + b) _ _ (Nat.mul_mod_left _ _) (by omega)
  rw [j1, bits_or_u64_nat _ _ (by omega) (by omega)]
  have j2 : s * 2 ^ (a + b) + e * 2 ^ b ||| f = s * 2 ^ (a + b) + e * 2 ^ b + f := nat_join b _ _ (by
    rw [e2, ← Nat.mul_assoc, ← Nat.add_mul]; exact Nat.mul_mod_left _ _) hf
  rw [j2]
set_option maxHeartbeats 1000000 in
theorem float_isNaN (h : Fz W E F M B ne nf O) (s e f : Int) (w : World) :
    Calls Tryz.prog 84 #[.agg (parts s e f), .int .i64 W] w fun r w' => r = .returned (.bool (decide (e = M ∧ f ≠ 0))) ∧ Below w.heap.size w w' := by
  have h2 := Lib.hid (float_most h)
  clear h
  unfold parts
  by_cases he : e = M
  · subst he
    have HD : decide (e = e ∧ f ≠ 0) = (f != 0) := by simp [bne, BEq.beq]
    rw [HD]
    clear HD
    go_enter Tryz.func84, Tryz.ntmps84
    go_wp2_with fail
    have b0 : Blk (w.alloc (.cells (parts s e f) 116)) w.heap.size 116 (parts s e f) := Blk.fresh _ _ _
    have S : Below w.heap.size w (w.alloc (.cells (parts s e f) 116)) := below_alloc _ _
    unfold parts at b0 S
    generalize w.alloc (.cells #[.int .u64 s, .int .i64 e, .int .u64 f] 116) = w1 at *
    generalize hgg : w.heap.size = g at *
    obtain ⟨c0, c1, c2, fz⟩ := pblk b0
    clear fz b0
    go_quiet (with_reducible exact Calls.quiet_of_same ((h2.out _).mono (fun _ _ h => ⟨h.1, h.2.symm⟩)))
    go_wp2
    go_ret
    exact ⟨rfl, by rw [hgg]; exact below_drawnN S _⟩
  · have HD : decide (e = M ∧ f ≠ 0) = false := by simp [he]
    have he' : (e == M) = false := by simp [he]
    rw [HD]
    clear HD he
    go_enter Tryz.func84, Tryz.ntmps84
    go_wp2_with fail
    have b0 : Blk (w.alloc (.cells (parts s e f) 116)) w.heap.size 116 (parts s e f) := Blk.fresh _ _ _
    have S : Below w.heap.size w (w.alloc (.cells (parts s e f) 116)) := below_alloc _ _
    unfold parts at b0 S
    generalize w.alloc (.cells #[.int .u64 s, .int .i64 e, .int .u64 f] 116) = w1 at *
    generalize hgg : w.heap.size = g at *
    obtain ⟨c0, c1, c2, fz⟩ := pblk b0
    clear fz b0
    go_quiet (with_reducible exact Calls.quiet_of_same ((h2.out _).mono (fun _ _ h => ⟨h.1, h.2.symm⟩)))
    go_wp2
    go_ret
    exact ⟨rfl, by rw [hgg]; exact below_drawnN S _⟩
set_option maxHeartbeats 1000000 in
theorem float_join (h : Fz W E F M B ne nf O) (s e f : Nat) (hs : s < 2) (he : e < 2 ^ ne) (hf : f < 2 ^ nf) (w : World) :
    Calls Tryz.prog 165 #[.agg (parts s e f), .int .i64 W] w fun r w' => r = .returned (.int .u64 ((s * 2 ^ (ne + nf) + e * 2 ^ nf + f : Nat) : Int)) ∧ Below w.heap.size w w' := by
  have h2 := Lib.hid (float_fb h)
  unfold parts
  cases h
  · have HO : Hid (bits .or .u64 (bits .or .u64 ((s : Int) * 32768) ((e : Int) * 1024)) (f : Int) = ((s * 2 ^ (5 + 10) + e * 2 ^ 10 + f : Nat) : Int)) := by
      have := or_parts hs he hf (by decide)
      rw [show ((s * 2 ^ (5 + 10) : Nat) : Int) = (s : Int) * 32768 by omega, show ((e * 2 ^ 10 : Nat) : Int) = (e : Int) * 1024 by omega] at this
      exact this
    go_enter Tryz.func165, Tryz.ntmps165
    go_wp2_with fail
    have b0 : Blk (w.alloc (.cells (parts s e f) 116)) w.heap.size 116 (parts s e f) := Blk.fresh _ _ _
    have S : Below w.heap.size w (w.alloc (.cells (parts s e f) 116)) := below_alloc _ _
    unfold parts at b0 S
    generalize w.alloc (.cells #[.int .u64 s, .int .i64 e, .int .u64 f] 116) = w1 at *
    generalize hgg : w.heap.size = g at *
    obtain ⟨c0, c1, c2, fz⟩ := pblk b0
    clear fz b0
    go_quiet (with_reducible exact Calls.quiet_of_same ((h2.out _).mono (fun _ _ h => ⟨h.1, h.2.symm⟩)))
    go_wp2
    go_ret
    exact ⟨ret_num HO.out, by rw [hgg]; exact below_drawnN S _⟩
  · have HO : Hid (bits .or .u64 (bits .or .u64 ((s : Int) * 2147483648) ((e : Int) * 8388608)) (f : Int) = ((s * 2 ^ (8 + 23) + e * 2 ^ 23 + f : Nat) : Int)) := by
      have := or_parts hs he hf (by decide)
      rw [show ((s * 2 ^ (8 + 23) : Nat) : Int) = (s : Int) * 2147483648 by omega, show ((e * 2 ^ 23 : Nat) : Int) = (e : Int) * 8388608 by omega] at this
      exact this
    go_enter Tryz.func165, Tryz.ntmps165
    go_wp2_with fail
    have b0 : Blk (w.alloc (.cells (parts s e f) 116)) w.heap.size 116 (parts s e f) := Blk.fresh _ _ _
    have S : Below w.heap.size w (w.alloc (.cells (parts s e f) 116)) := below_alloc _ _
    unfold parts at b0 S
    generalize w.alloc (.cells #[.int .u64 s, .int .i64 e, .int .u64 f] 116) = w1 at *
    generalize hgg : w.heap.size = g at *
    obtain ⟨c0, c1, c2, fz⟩ := pblk b0
    clear fz b0
    go_quiet (with_reducible exact Calls.quiet_of_same ((h2.out _).mono (fun _ _ h => ⟨h.1, h.2.symm⟩)))
    go_wp2
    go_ret
    exact ⟨ret_num HO.out, by rw [hgg]; exact below_drawnN S _⟩
  · have HO : Hid (bits .or .u64 (bits .or .u64 ((s : Int) * 9223372036854775808) ((e : Int) * 4503599627370496)) (f : Int) = ((s * 2 ^ (11 + 52) + e * 2 ^ 52 + f : Nat) : Int)) := by
      have := or_parts hs he hf (by decide)
      rw [show ((s * 2 ^ (11 + 52) : Nat) : Int) = (s : Int) * 9223372036854775808 by omega, show ((e * 2 ^ 52 : Nat) : Int) = (e : Int) * 4503599627370496 by omega] at this
      exact this
    go_enter Tryz.func165, Tryz.ntmps165
    go_wp2_with fail
    have b0 : Blk (w.alloc (.cells (parts s e f) 116)) w.heap.size 116 (parts s e f) := Blk.fresh _ _ _
    have S : Below w.heap.size w (w.alloc (.cells (parts s e f) 116)) := below_alloc _ _
    unfold parts at b0 S
    generalize w.alloc (.cells #[.int .u64 s, .int .i64 e, .int .u64 f] 116) = w1 at *
    generalize hgg : w.heap.size = g at *
    obtain ⟨c0, c1, c2, fz⟩ := pblk b0
    clear fz b0
    go_quiet (with_reducible exact Calls.quiet_of_same ((h2.out _).mono (fun _ _ h => ⟨h.1, h.2.symm⟩)))
    go_wp2
    go_ret
    exact ⟨ret_num HO.out, by rw [hgg]; exact below_drawnN S _⟩
end
end Go.Proofs.YtjelgoeamaejmaaGreat

/- Package float: a number below the least normal one. -/
namespace Go.Proofs.YtjelgoeamaejmaaGreat
open Go.RowKit
def cellInt (g o : Nat) (w : World) : Nat := match w.cell? ⟨g, o, none⟩ with | some v => (intOf v).toNat | none => 0
theorem cellInt_of {w : World} {g o : Nat} {k : IntKind} {n : Int} (h : w.cell? ⟨g, o, none⟩ = some (.int k n)) : cellInt g o w = n.toNat := by
  unfold cellInt; rw [h]; rfl
def upN (f k : Nat) : Nat := f * 2 ^ k
def dnN (c k : Nat) : Nat := c - k
theorem upN_eq (f k : Nat) : upN f k = f * 2 ^ k := rfl
theorem dnN_eq (c k : Nat) : dnN c k = c - k := rfl
attribute [irreducible] upN dnN
set_option maxRecDepth 100000 in
set_option maxHeartbeats 1000000 in
theorem float_normal_half (s f : Nat) (hf0 : 0 < f) (hf : f < 2 ^ 10) (e : Int) (w : World) :
    Calls Tryz.prog 170 #[.agg (parts s e f), .int .i64 2] w fun r w' => ∃ k, k ≤ 10 ∧ 1024 ≤ upN f k ∧ upN f k < 2048 ∧
      r = .returned (.agg (parts s (dnN 1009 k) (dnN (upN f k) 1024))) ∧ Below w.heap.size w w' := by
  have h1 := Lib.hid (float_fb .half)
  have h2 := Lib.hid (float_bias .half)
  have h3 := Lib.hid (float_bias .double)
  unfold parts
  go_enter Tryz.func170, Tryz.ntmps170
  go_wp2_with fail
  have b0 : Blk ((w.alloc (.cells (parts s e f) 116)).alloc (.cells (parts 0 0 0) 116)) w.heap.size 116 (parts s e f) := (Blk.fresh _ _ _).alloc _
  have b1 : Blk ((w.alloc (.cells (parts s e f) 116)).alloc (.cells (parts 0 0 0) 116)) (w.heap.size + 1) 116 (parts 0 0 0) := Blk.freshAt _ _ _ _ (by simp)
  have S : Below w.heap.size w ((w.alloc (.cells (parts s e f) 116)).alloc (.cells (parts 0 0 0) 116)) := ((Below.refl _ _).alloc (Nat.le_refl _) _).alloc (by simp) _
  unfold parts at b0 b1 S
  generalize (w.alloc (.cells #[.int .u64 s, .int .i64 e, .int .u64 f] 116)).alloc (.cells #[.int .u64 0, .int .i64 0, .int .u64 0] 116) = w1 at *
  generalize hgg : w.heap.size = g at *
  obtain ⟨c0, c1, c2, fz⟩ := pblk b0
  have f1 := fz 1
  have B0 := Lib.hid b0
  have B1 := Lib.hid b1
  clear fz b0 b1
  go_wp2_with (first | (go_at_call 102; refine (h1.out _).mono ?_; rintro e w' ⟨rfl, rfl⟩) | (go_at_call 164; first | (refine (h2.out _).mono ?_; rintro e w' ⟨rfl, rfl⟩) | (refine (h3.out _).mono ?_; rintro e w' ⟨rfl, rfl⟩)))
  have hb := B0.out.put 1 (.int .i64 1009)
  have hb1 := B1.out.far (p := ⟨g, 1, none⟩) (Nat.succ_ne_self g) (.int .i64 1009)
  have hbl : Below g w (w1.setCell ⟨g, 1, none⟩ (.int .i64 1009)) := S.setCell (Nat.le_refl _) _
  have B0 := Lib.hid (show Blk _ g 116 (parts s (dnN 1009 0) (upN f 0)) by rw [upN_eq, dnN_eq, Nat.pow_zero, Nat.mul_one]; exact hb)
  have B1 := Lib.hid (show Blk _ (g + 1) 116 (parts 0 0 0) from hb1)
  have S := Lib.hid hbl
  clear hb hb1 hbl c0 c1 c2 f1 h1 h2 h3
  generalize w1.setCell ⟨g, 1, none⟩ (.int .i64 1009) = w2 at *
  go_loopw [] (fun wr => ∃ k, k ≤ 10 ∧ upN f k < 2048 ∧ Blk wr g 116 (parts s (dnN 1009 k) (upN f k)) ∧ Blk wr (g + 1) 116 (parts 0 0 0) ∧ Below g w wr) (fun wr => cellInt g 1 wr)
  case atStart => exact ⟨0, Nat.zero_le _, by rw [upN_eq]; omega, B0.out, B1.out, S.out⟩
  case round =>
    obtain ⟨k, hk, hlt, b0, b1, hbl⟩ := hrel
    have hkF : upN f k < 1024 → k < 10 := fun h => by
      rw [upN_eq] at h
      refine Nat.lt_of_not_le fun hle => ?_
      have := Nat.mul_le_mul hf0 (Nat.pow_le_pow_right (show 0 < 2 by decide) hle)
      omega
    have hk2 : upN f (k + 1) = upN f k * 2 := by rw [upN_eq, upN_eq, Nat.pow_succ, Nat.mul_assoc]
    obtain ⟨c0, c1, c2, fz⟩ := pblk b0
    have HM := Lib.hid (cellInt_of c1)
    have f1 := fz 1
    have f2 := fz 2
    have HB0 := Lib.hid b0
    have HB1 := Lib.hid b1
    clear fz b0 b1
    obtain ⟨n, hn⟩ : ∃ n, upN f k = n := ⟨_, rfl⟩
    rw [hn] at c2 hlt hkF HB0 hk2
    obtain ⟨c, hc⟩ : ∃ c, dnN 1009 k = c := ⟨_, rfl⟩
    rw [hc] at c1 HB0 HM
    have HN := Lib.hid hn
    have HC := Lib.hid hc
    have HK := Lib.hid hk2
    have HL := Lib.hid hlt
    have hn2 : (n : Int) < 2048 := by have := HL.out; omega
    have hn0 : (0 : Int) ≤ n := by omega
    clear hn hc hk2 hlt
    have HKF := Lib.hid hkF
    have HL2 := Lib.hid hk
    clear hkF hf hf0 hk
    generalize hz : (n : Int) = z at c2 HB0 hn2 hn0
    generalize hy : (c : Int) = y at c1 HB0 HM
    have HZ := Lib.hid hz
    have HY := Lib.hid hy
    clear hz hy
    by_cases hround : z < 1024
    · have HKK := Lib.hid (HKF.out (by have := HZ.out; omega))
      go_wp2_with fail
      go_roundw
      case rel =>
        have e1 : wrap64 (y - 1) = ((dnN 1009 (k + 1) : Nat) : Int) := by
          have h1 := HC.out
          have h2 := HKK.out
          have h3 := HY.out
          rw [dnN_eq] at h1 ⊢
          unfold wrap64
          omega
        have e2 : z * 2 = ((upN f (k + 1) : Nat) : Int) := by rw [HK.out, ← HZ.out]; simp
        refine ⟨k + 1, HKK.out, by rw [HK.out]; have := HZ.out; omega, ?_, (HB1.out.far (Nat.succ_ne_self g) _).far (Nat.succ_ne_self g) _, (hbl.setCell (Nat.le_refl _) _).setCell (Nat.le_refl _) _⟩
        rw [← e1, ← e2]
        exact (HB0.out.put 2 _).put 1 _
      case measure =>
        have := cellInt_of ((((HB0.out.put 2 (.int .u64 (z * 2))).put 1 (.int .i64 (wrap64 (y - 1)))).cell 1).trans rfl)
        have h1 := HC.out
        have h2 := HKK.out
        have h3 := HM.out
        have h4 := HY.out
        rw [dnN_eq] at h1
        unfold wrap64 at *
        omega
    · have hr2 : (1024 : Int) ≤ z := by omega
      clear hround
      obtain ⟨d0, d1, d2, dz⟩ := pblk HB1.out
      have g0 := dz 0
      have g1 := dz 1
      have g2 := dz 2
      clear dz
      go_wp2_with fail
      have e1 : y = ((dnN 1009 k : Nat) : Int) := by rw [HC.out]; exact HY.out.symm
      have e2 : z - 1024 = ((dnN (upN f k) 1024 : Nat) : Int) := by
        have := HZ.out
        rw [dnN_eq, HN.out]
        omega
      exact bodyPost_ret (results_blk rfl _ rfl ((((HB1.out.far (Nat.succ_ne_self g) _).put 0 _).put 1 _).put 2 _) Tryz.underlying116 rfl size_parts) rfl ⟨k, HL2.out, by rw [HN.out]; have := HZ.out; omega, by rw [HN.out]; exact HL.out, by rw [← e1, ← e2]; rfl, by rw [hgg]; exact (((hbl.setCell (Nat.le_refl _) _).setCell (Nat.le_succ g) _).setCell (Nat.le_succ g) _).setCell (Nat.le_succ g) _⟩
set_option maxRecDepth 100000 in
set_option maxHeartbeats 1000000 in
theorem float_normal_single (s f : Nat) (hf0 : 0 < f) (hf : f < 2 ^ 23) (e : Int) (w : World) :
    Calls Tryz.prog 170 #[.agg (parts s e f), .int .i64 4] w fun r w' => ∃ k, k ≤ 23 ∧ 8388608 ≤ upN f k ∧ upN f k < 16777216 ∧
      r = .returned (.agg (parts s (dnN 897 k) (dnN (upN f k) 8388608))) ∧ Below w.heap.size w w' := by
  have h1 := Lib.hid (float_fb .single)
  have h2 := Lib.hid (float_bias .single)
  have h3 := Lib.hid (float_bias .double)
  unfold parts
  go_enter Tryz.func170, Tryz.ntmps170
  go_wp2_with fail
  have b0 : Blk ((w.alloc (.cells (parts s e f) 116)).alloc (.cells (parts 0 0 0) 116)) w.heap.size 116 (parts s e f) := (Blk.fresh _ _ _).alloc _
  have b1 : Blk ((w.alloc (.cells (parts s e f) 116)).alloc (.cells (parts 0 0 0) 116)) (w.heap.size + 1) 116 (parts 0 0 0) := Blk.freshAt _ _ _ _ (by simp)
  have S : Below w.heap.size w ((w.alloc (.cells (parts s e f) 116)).alloc (.cells (parts 0 0 0) 116)) := ((Below.refl _ _).alloc (Nat.le_refl _) _).alloc (by simp) _
  unfold parts at b0 b1 S
  generalize (w.alloc (.cells #[.int .u64 s, .int .i64 e, .int .u64 f] 116)).alloc (.cells #[.int .u64 0, .int .i64 0, .int .u64 0] 116) = w1 at *
  generalize hgg : w.heap.size = g at *
  obtain ⟨c0, c1, c2, fz⟩ := pblk b0
  have f1 := fz 1
  have B0 := Lib.hid b0
  have B1 := Lib.hid b1
  clear fz b0 b1
  go_wp2_with (first | (go_at_call 102; refine (h1.out _).mono ?_; rintro e w' ⟨rfl, rfl⟩) | (go_at_call 164; first | (refine (h2.out _).mono ?_; rintro e w' ⟨rfl, rfl⟩) | (refine (h3.out _).mono ?_; rintro e w' ⟨rfl, rfl⟩)))
  have hb := B0.out.put 1 (.int .i64 897)
  have hb1 := B1.out.far (p := ⟨g, 1, none⟩) (Nat.succ_ne_self g) (.int .i64 897)
  have hbl : Below g w (w1.setCell ⟨g, 1, none⟩ (.int .i64 897)) := S.setCell (Nat.le_refl _) _
  have B0 := Lib.hid (show Blk _ g 116 (parts s (dnN 897 0) (upN f 0)) by rw [upN_eq, dnN_eq, Nat.pow_zero, Nat.mul_one]; exact hb)
  have B1 := Lib.hid (show Blk _ (g + 1) 116 (parts 0 0 0) from hb1)
  have S := Lib.hid hbl
  clear hb hb1 hbl c0 c1 c2 f1 h1 h2 h3
  generalize w1.setCell ⟨g, 1, none⟩ (.int .i64 897) = w2 at *
  go_loopw [] (fun wr => ∃ k, k ≤ 23 ∧ upN f k < 16777216 ∧ Blk wr g 116 (parts s (dnN 897 k) (upN f k)) ∧ Blk wr (g + 1) 116 (parts 0 0 0) ∧ Below g w wr) (fun wr => cellInt g 1 wr)
  case atStart => exact ⟨0, Nat.zero_le _, by rw [upN_eq]; omega, B0.out, B1.out, S.out⟩
  case round =>
    obtain ⟨k, hk, hlt, b0, b1, hbl⟩ := hrel
    have hkF : upN f k < 8388608 → k < 23 := fun h => by
      rw [upN_eq] at h
      refine Nat.lt_of_not_le fun hle => ?_
      have := Nat.mul_le_mul hf0 (Nat.pow_le_pow_right (show 0 < 2 by decide) hle)
      omega
    have hk2 : upN f (k + 1) = upN f k * 2 := by rw [upN_eq, upN_eq, Nat.pow_succ, Nat.mul_assoc]
    obtain ⟨c0, c1, c2, fz⟩ := pblk b0
    have HM := Lib.hid (cellInt_of c1)
    have f1 := fz 1
    have f2 := fz 2
    have HB0 := Lib.hid b0
    have HB1 := Lib.hid b1
    clear fz b0 b1
    obtain ⟨n, hn⟩ : ∃ n, upN f k = n := ⟨_, rfl⟩
    rw [hn] at c2 hlt hkF HB0 hk2
    obtain ⟨c, hc⟩ : ∃ c, dnN 897 k = c := ⟨_, rfl⟩
    rw [hc] at c1 HB0 HM
    have HN := Lib.hid hn
    have HC := Lib.hid hc
    have HK := Lib.hid hk2
    have HL := Lib.hid hlt
    have hn2 : (n : Int) < 16777216 := by have := HL.out; omega
    have hn0 : (0 : Int) ≤ n := by omega
    clear hn hc hk2 hlt
    have HKF := Lib.hid hkF
    have HL2 := Lib.hid hk
    clear hkF hf hf0 hk
    generalize hz : (n : Int) = z at c2 HB0 hn2 hn0
    generalize hy : (c : Int) = y at c1 HB0 HM
    have HZ := Lib.hid hz
    have HY := Lib.hid hy
    clear hz hy
    by_cases hround : z < 8388608
    · have HKK := Lib.hid (HKF.out (by have := HZ.out; omega))
      go_wp2_with fail
      go_roundw
      case rel =>
        have e1 : wrap64 (y - 1) = ((dnN 897 (k + 1) : Nat) : Int) := by
          have h1 := HC.out
          have h2 := HKK.out
          have h3 := HY.out
          rw [dnN_eq] at h1 ⊢
          unfold wrap64
          omega
        have e2 : z * 2 = ((upN f (k + 1) : Nat) : Int) := by rw [HK.out, ← HZ.out]; simp
        refine ⟨k + 1, HKK.out, by rw [HK.out]; have := HZ.out; omega, ?_, (HB1.out.far (Nat.succ_ne_self g) _).far (Nat.succ_ne_self g) _, (hbl.setCell (Nat.le_refl _) _).setCell (Nat.le_refl _) _⟩
        rw [← e1, ← e2]
        exact (HB0.out.put 2 _).put 1 _
      case measure =>
        have := cellInt_of ((((HB0.out.put 2 (.int .u64 (z * 2))).put 1 (.int .i64 (wrap64 (y - 1)))).cell 1).trans rfl)
        have h1 := HC.out
        have h2 := HKK.out
        have h3 := HM.out
        have h4 := HY.out
        rw [dnN_eq] at h1
        unfold wrap64 at *
        omega
    · have hr2 : (8388608 : Int) ≤ z := by omega
      clear hround
      obtain ⟨d0, d1, d2, dz⟩ := pblk HB1.out
      have g0 := dz 0
      have g1 := dz 1
      have g2 := dz 2
      clear dz
      go_wp2_with fail
      have e1 : y = ((dnN 897 k : Nat) : Int) := by rw [HC.out]; exact HY.out.symm
      have e2 : z - 8388608 = ((dnN (upN f k) 8388608 : Nat) : Int) := by
        have := HZ.out
        rw [dnN_eq, HN.out]
        omega
      exact bodyPost_ret (results_blk rfl _ rfl ((((HB1.out.far (Nat.succ_ne_self g) _).put 0 _).put 1 _).put 2 _) Tryz.underlying116 rfl size_parts) rfl ⟨k, HL2.out, by rw [HN.out]; have := HZ.out; omega, by rw [HN.out]; exact HL.out, by rw [← e1, ← e2]; rfl, by rw [hgg]; exact (((hbl.setCell (Nat.le_refl _) _).setCell (Nat.le_succ g) _).setCell (Nat.le_succ g) _).setCell (Nat.le_succ g) _⟩
end Go.Proofs.YtjelgoeamaejmaaGreat
