/- Plain numbers: a number of B bits turned to the right by k. -/
import Derived.Laws.BitsAllLaws
import Derived.Laws.Shifts
namespace Go.Proofs.YtabmckjlmpajoaaDoor

/-- x of B bits, turned to the right by k (0 to B - 1). -/
def turned (B : Nat) (x : Int) (k : Nat) : Int := x / 2 ^ k + x % 2 ^ k * 2 ^ (B - k)

theorem or_add (a b : Int) (n : Nat) (ha : 0 ≤ a) (ha' : a < 2 ^ n) (hb : 0 ≤ b) : ((a.toNat ||| (b * 2 ^ n).toNat : Nat) : Int) = a + b * 2 ^ n := by
  obtain ⟨A, rfl⟩ := Int.eq_ofNat_of_zero_le ha
  obtain ⟨C, rfl⟩ := Int.eq_ofNat_of_zero_le hb
  have e : ((C : Int) * 2 ^ n).toNat = C * 2 ^ n := by
    have : ((C : Int) * 2 ^ n) = ((C * 2 ^ n : Nat) : Int) := by simp
    rw [this, Int.toNat_natCast]
  rw [e, Int.toNat_natCast]
  have hA : A < 2 ^ n := by exact_mod_cast ha'
  rw [Nat.or_comm, Nat.mul_comm, ← Nat.two_pow_add_eq_or_of_lt hA]
  push_cast
  rw [Int.mul_comm, Int.add_comm]

theorem shl_mod (B : Nat) (x : Int) (k : Nat) (hk : k ≤ B) : x * 2 ^ (B - k) % 2 ^ B = x % 2 ^ k * 2 ^ (B - k) := by
  have e : (2 : Int) ^ B = 2 ^ k * 2 ^ (B - k) := by rw [← Int.pow_add]; congr 1; omega
  rw [e, Int.mul_comm x, Int.mul_comm (2 ^ k), Int.mul_emod_mul_of_pos _ _ (Int.pow_pos (by decide)), Int.mul_comm]

theorem turned_range (B : Nat) (x : Int) (k : Nat) (hk : k ≤ B) (h0 : 0 ≤ x) (h1 : x < 2 ^ B) : 0 ≤ turned B x k ∧ turned B x k < 2 ^ B := by
  have hp : (0 : Int) < 2 ^ k := Int.pow_pos (by decide)
  have hq : (0 : Int) < 2 ^ (B - k) := Int.pow_pos (by decide)
  have e : (2 : Int) ^ B = 2 ^ k * 2 ^ (B - k) := by rw [← Int.pow_add]; congr 1; omega
  have hd : x / 2 ^ k < 2 ^ (B - k) := Int.ediv_lt_of_lt_mul hp (by rw [Int.mul_comm, ← e]; exact h1)
  have hd0 : 0 ≤ x / 2 ^ k := Int.ediv_nonneg h0 (Int.le_of_lt hp)
  have hm0 : 0 ≤ x % 2 ^ k := Int.emod_nonneg _ (by omega)
  have hm1 : x % 2 ^ k < 2 ^ k := Int.emod_lt_of_pos _ hp
  unfold turned
  refine ⟨Int.add_nonneg hd0 (Int.mul_nonneg hm0 (Int.le_of_lt hq)), ?_⟩
  have hle : x % 2 ^ k * 2 ^ (B - k) ≤ (2 ^ k - 1) * 2 ^ (B - k) := Int.mul_le_mul_of_nonneg_right (by omega) (Int.le_of_lt hq)
  rw [Int.sub_mul, ← e] at hle
  omega

/-- What the code's last line makes is the turned number. -/
theorem turned_or (B : Nat) (x : Int) (k : Nat) (hk : k ≤ B) (h0 : 0 ≤ x) (h1 : x < 2 ^ B) :
    (((x / 2 ^ k).toNat ||| (x * 2 ^ (B - k) % 2 ^ B).toNat : Nat) : Int) = turned B x k := by
  have hp : (0 : Int) < 2 ^ k := Int.pow_pos (by decide)
  have e : (2 : Int) ^ B = 2 ^ k * 2 ^ (B - k) := by rw [← Int.pow_add]; congr 1; omega
  rw [shl_mod B x k hk]
  exact or_add _ _ _ (Int.ediv_nonneg h0 (Int.le_of_lt hp)) (Int.ediv_lt_of_lt_mul hp (by rw [Int.mul_comm, ← e]; exact h1)) (Int.emod_nonneg _ (by omega))

theorem turned_zero (B : Nat) (x : Int) : turned B x 0 = x := by
  simp [turned, Int.emod_one]

/-- Turned back it is as it was. -/
theorem turned_back (B : Nat) (x : Int) (k : Nat) (hk : k ≤ B) (h0 : 0 ≤ x) (h1 : x < 2 ^ B) : turned B (turned B x k) (B - k) = x := by
  have hp : (0 : Int) < 2 ^ k := Int.pow_pos (by decide)
  have hq : (0 : Int) < 2 ^ (B - k) := Int.pow_pos (by decide)
  have e : (2 : Int) ^ B = 2 ^ k * 2 ^ (B - k) := by rw [← Int.pow_add]; congr 1; omega
  have hd : x / 2 ^ k < 2 ^ (B - k) := Int.ediv_lt_of_lt_mul hp (by rw [Int.mul_comm, ← e]; exact h1)
  have hd0 : 0 ≤ x / 2 ^ k := Int.ediv_nonneg h0 (Int.le_of_lt hp)
  show (x / 2 ^ k + x % 2 ^ k * 2 ^ (B - k)) / 2 ^ (B - k) + (x / 2 ^ k + x % 2 ^ k * 2 ^ (B - k)) % 2 ^ (B - k) * 2 ^ (B - (B - k)) = x
  rw [Int.add_mul_ediv_right _ _ (by omega), Int.ediv_eq_zero_of_lt hd0 hd, Int.add_mul_emod_self_right, Int.emod_eq_of_lt hd0 hd]
  have e2 : B - (B - k) = k := by omega
  rw [e2, Int.zero_add]
  have := Int.emod_add_mul_ediv x (2 ^ k)
  rw [Int.mul_comm] at this
  omega
end Go.Proofs.YtabmckjlmpajoaaDoor
