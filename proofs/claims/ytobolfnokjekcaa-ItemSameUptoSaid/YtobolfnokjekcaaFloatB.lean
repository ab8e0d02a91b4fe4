
/- Package float: a NaN, a float put together. -/
import Derived.Test.YtobolfnokjekcaaFloatA
namespace Go.Proofs.Ytobolfnokjekcaa
open Go.RowKit
section
variable {W E F M B : Int} {ne nf O : Nat}
theorem or_parts {s e f a b : Nat} (hs : s < 2) (he : e < 2 ^ a) (hf : f < 2 ^ b) (hab : 1 + a + b ≤ 64) :
    bits .or .u64 (bits .or .u64 ((s * 2 ^ (a + b) : Nat) : Int) ((e * 2 ^ b : Nat) : Int)) (f : Int) = ((s * 2 ^ (a + b) + e * 2 ^ b + f : Nat) : Int) := by
  have h0 : 2 ^ (1 + a + b) ≤ 2 ^ 64 := Nat.pow_le_pow_right (by decide) hab
  have e1 : 2 ^ (1 + a + b) = 2 * (2 ^ a * 2 ^ b) := by rw [Nat.pow_add, Nat.pow_add, Nat.pow_one, Nat.mul_assoc]
  have e2 : 2 ^ (a + b) = 2 ^ a * 2 ^ b := Nat.pow_add 2 a b
  have h1 : e * 2 ^ b + f < 2 ^ a * 2 ^ b := by
    have := Nat.mul_le_mul_right (2 ^ b) (show e + 1 ≤ 2 ^ a from he)
    rw [Nat.add_mul] at this
    omega
  have h2 : s * 2 ^ (a + b) ≤ 1 * 2 ^ (a + b) := Nat.mul_le_mul_right _ (by omega)
  rw [bits_or_u64_nat _ _ (by omega) (by omega)]
  have j1 : s * 2 ^ (a + b) ||| e * 2 ^ b = s * 2 ^ (a + b) + e * 2 ^ b := nat_join (a + b) _ _ (Nat.mul_mod_left _ _) (by omega)
  rw [j1, bits_or_u64_nat _ _ (by omega) (by omega)]
  have j2 : s * 2 ^ (a + b) + e * 2 ^ b ||| f = s * 2 ^ (a + b) + e * 2 ^ b + f := nat_join b _ _ (by
    rw [e2, ← Nat.mul_assoc, ← Nat.add_mul]; exact Nat.mul_mod_left _ _) hf
  rw [j2]
set_option maxHeartbeats 1000000 in
theorem float_isNaN (h : Fz W E F M B ne nf O) (s e f : Int) (w : World) :
    Calls Try.prog 41 #[.agg (parts s e f), .int .i64 W] w fun r w' => r = .returned (.bool (decide (e = M ∧ f ≠ 0))) ∧ Below w.heap.size w w' := by
  have h2 := Lib.hid (float_most h)
  clear h
  unfold parts
  by_cases he : e = M
  · subst he
    have HD : decide (e = e ∧ f ≠ 0) = (f != 0) := by simp [bne, BEq.beq]
    rw [HD]
    clear HD
    go_enter Try.func41, Try.ntmps41
    go_wp2_with fail
    have b0 : Blk (w.alloc (.cells (parts s e f) 67)) w.heap.size 67 (parts s e f) := Blk.fresh _ _ _
    have S : Below w.heap.size w (w.alloc (.cells (parts s e f) 67)) := below_alloc _ _
    unfold parts at b0 S
    generalize w.alloc (.cells #[.int .u64 s, .int .i64 e, .int .u64 f] 67) = w1 at *
    generalize hgg : w.heap.size = g at *
    obtain ⟨c0, c1, c2, fz⟩ := pblk b0
    clear fz b0
    go_quiet (with_reducible exact Calls.quiet_of_same ((h2.out _).mono (fun _ _ h => ⟨h.1, h.2.symm⟩)))
    go_wp2
    go_ret
    exact ⟨rfl, by rw [hgg]; exact below_drawnN S _⟩
  · have HD : decide (e = M ∧ f ≠ 0) = false := by simp [he]
    have he' : (e == M) = false := by simp [he]
    rw [HD]
    clear HD he
    go_enter Try.func41, Try.ntmps41
    go_wp2_with fail
    have b0 : Blk (w.alloc (.cells (parts s e f) 67)) w.heap.size 67 (parts s e f) := Blk.fresh _ _ _
    have S : Below w.heap.size w (w.alloc (.cells (parts s e f) 67)) := below_alloc _ _
    unfold parts at b0 S
    generalize w.alloc (.cells #[.int .u64 s, .int .i64 e, .int .u64 f] 67) = w1 at *
    generalize hgg : w.heap.size = g at *
    obtain ⟨c0, c1, c2, fz⟩ := pblk b0
    clear fz b0
    go_quiet (with_reducible exact Calls.quiet_of_same ((h2.out _).mono (fun _ _ h => ⟨h.1, h.2.symm⟩)))
    go_wp2
    go_ret
    exact ⟨rfl, by rw [hgg]; exact below_drawnN S _⟩
end
end Go.Proofs.Ytobolfnokjekcaa
