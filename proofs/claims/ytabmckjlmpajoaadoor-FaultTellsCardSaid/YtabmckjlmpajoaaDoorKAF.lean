/- The contracts of the turning functions. -/
import Derived.Test.YtabmckjlmpajoaaDoorRows
import Derived.Test.YtabmckjlmpajoaaDoorKAE
import Derived.Test.YtabmckjlmpajoaaDoorKAA
import Derived.RegionTactic
namespace Go.Proofs.YtabmckjlmpajoaaDoor
open Go.ChangeShapes Go.WideShapes Go.ChangeAt Go.RowKit

theorem wrap_rem32 (n : Int) : (IntKind.u64.wrap n).tmod 32 = ((n % 32).toNat : Int) := by
  have := wrap_u64_nonneg n
  rw [Int.tmod_eq_emod_of_nonneg this, IntKind.wrap_u64]; omega
theorem wrap_rem64 (n : Int) : (IntKind.u64.wrap n).tmod 64 = ((n % 64).toNat : Int) := by
  have := wrap_u64_nonneg n
  rw [Int.tmod_eq_emod_of_nonneg this, IntKind.wrap_u64]; omega
theorem or_turned32 (x : Int) (k : Nat) (hk : k ≤ 32) (h0 : 0 ≤ x) (h1 : x < 4294967296) :
    bits BinOp.or IntKind.u32 (x / 2 ^ k) (x * 2 ^ (32 - k) % 4294967296) = turned 32 x k := by
  have hp : (0 : Int) < 2 ^ k := Int.pow_pos (by decide)
  have a0 : 0 ≤ x / 2 ^ k := Int.ediv_nonneg h0 (Int.le_of_lt hp)
  have a1 : x / 2 ^ k ≤ x := Int.ediv_le_self _ h0
  rw [u32_or _ _ a0 (by omega) (by omega) (by omega)]
  exact turned_or 32 x k hk h0 h1
theorem or_turned64 (x : Int) (k : Nat) (hk : k ≤ 64) (h0 : 0 ≤ x) (h1 : x < 18446744073709551616) :
    bits BinOp.or IntKind.u64 (x / 2 ^ k) (x * 2 ^ (64 - k) % 18446744073709551616) = turned 64 x k := by
  have hp : (0 : Int) < 2 ^ k := Int.pow_pos (by decide)
  have a0 : 0 ≤ x / 2 ^ k := Int.ediv_nonneg h0 (Int.le_of_lt hp)
  have a1 : x / 2 ^ k ≤ x := Int.ediv_le_self _ h0
  rw [u64_or _ _ a0 (by omega) (by omega) (by omega)]
  exact turned_or 64 x k hk h0 h1

theorem ref_rem32 (n : Int) : ((n.tmod 32) + 32).tmod 32 = ((n % 32).toNat : Int) ∧ -32 < n.tmod 32 ∧ n.tmod 32 < 32 := by
  have h := Int.tmod_eq_emod (a := n) (b := 32)
  have hn : ((32 : Int).natAbs : Int) = 32 := rfl
  have hs : -32 < n.tmod 32 ∧ n.tmod 32 < 32 := by split at h <;> omega
  refine ⟨?_, hs⟩
  rw [Int.tmod_eq_emod_of_nonneg (by omega : 0 ≤ n.tmod 32 + 32)]
  split at h <;> omega
theorem back_num32 (m k : Int) (x : Int) (h0 : 0 ≤ x) (h1 : x < 4294967296) (hk : k = -m) : turned 32 (turned 32 x (m % 32).toNat) (k % 32).toNat = x := by
  subst hk
  by_cases hz : m % 32 = 0
  · have e1 : (m % 32).toNat = 0 := by omega
    have e2 : (-m % 32).toNat = 0 := by omega
    rw [e1, e2, turned_zero, turned_zero]
  · have e2 : (-m % 32).toNat = 32 - (m % 32).toNat := by omega
    rw [e2]
    exact turned_back 32 x _ (by omega) h0 h1
theorem ref_rem64 (n : Int) : ((n.tmod 64) + 64).tmod 64 = ((n % 64).toNat : Int) ∧ -64 < n.tmod 64 ∧ n.tmod 64 < 64 := by
  have h := Int.tmod_eq_emod (a := n) (b := 64)
  have hn : ((64 : Int).natAbs : Int) = 64 := rfl
  have hs : -64 < n.tmod 64 ∧ n.tmod 64 < 64 := by split at h <;> omega
  refine ⟨?_, hs⟩
  rw [Int.tmod_eq_emod_of_nonneg (by omega : 0 ≤ n.tmod 64 + 64)]
  split at h <;> omega
theorem back_num64 (m k : Int) (x : Int) (h0 : 0 ≤ x) (h1 : x < 18446744073709551616) (hk : k = -m) : turned 64 (turned 64 x (m % 64).toNat) (k % 64).toNat = x := by
  subst hk
  by_cases hz : m % 64 = 0
  · have e1 : (m % 64).toNat = 0 := by omega
    have e2 : (-m % 64).toNat = 0 := by omega
    rw [e1, e2, turned_zero, turned_zero]
  · have e2 : (-m % 64).toNat = 64 - (m % 64).toNat := by omega
    rw [e2]
    exact turned_back 64 x _ (by omega) h0 h1
end Go.Proofs.YtabmckjlmpajoaaDoor
