
/- The document's answer: the rounds' numbers out of cube roots. -/
import Derived.Test.YtnankgophbjioaaDoorShaW
namespace Go.Proofs.YtnankgophbjioaaDoor
open Go.RowKit

/-- The cube root of p times 2^96, rounded down to its n highest bits of 35. -/
def kf (p : Int) : Nat → Int
  | 0 => 0
  | n + 1 => if (kf p n + 2 ^ (34 - n)) * (kf p n + 2 ^ (34 - n)) * (kf p n + 2 ^ (34 - n)) ≤ p * 79228162514264337593543950336 then kf p n + 2 ^ (34 - n) else kf p n
theorem kf_range (p : Int) : ∀ n : Nat, n ≤ 35 → 0 ≤ kf p n ∧ kf p n + 2 ^ (35 - n) ≤ 34359738368
  | 0, _ => by simp [kf]
  | n + 1, h => by
    have ih := kf_range p n (by omega)
    have e : (2 : Int) ^ (35 - n) = 2 * 2 ^ (34 - n) := by rw [show 35 - n = (34 - n) + 1 by omega, Int.pow_succ]; omega
    have hp : (0 : Int) < 2 ^ (34 - n) := Int.pow_pos (by decide)
    rw [e] at ih
    rw [show 35 - (n + 1) = 34 - n by omega]
    unfold kf
    split <;> omega
theorem kf_succ (p : Int) (n : Nat) : kf p (n + 1) = if (kf p n + 2 ^ (34 - n)) * (kf p n + 2 ^ (34 - n)) * (kf p n + 2 ^ (34 - n)) ≤ p * 79228162514264337593543950336 then kf p n + 2 ^ (34 - n) else kf p n := rfl
attribute [irreducible] kf

set_option maxHeartbeats 800000 in
theorem ref_K (w : World) (p : Int) (hp : 0 ≤ p) (hp1 : p < 512) :
    Calls Tryd.prog 14 #[.int .u64 p] w fun e w' => e = .returned (.int .u32 (kf p 35 % 4294967296)) ∧ Below w.heap.size w w' := by
  go_enter Tryd.func14, Tryd.ntmps14
  go_wp2_with fail
  go_loopw [3, 4] (fun a b wr => ∃ k : Nat, k ≤ 35 ∧ b = .int .i64 ((k : Int) - 1) ∧ a = .int .u64 (kf p (35 - k)) ∧ Below w.heap.size w wr) (fun _ b _ => (intOf b + 1).toNat)
  case atStart => exact ⟨35, by decide, rfl, by unfold kf; rfl, Below.refl _ _⟩
  case round =>
    obtain ⟨k, hk, rfl, rfl, hb⟩ := hrel
    rcases k with _ | m
    · have hr := kf_range p 35 (by decide)
      go_wp2
      go_ret
      exact ⟨rfl, hb⟩
    · rw [show ((m + 1 : Nat) : Int) - 1 = m by omega]
      have hr := kf_range p (35 - (m + 1)) (by omega)
      rw [show 35 - (35 - (m + 1)) = m + 1 by omega, Int.pow_succ] at hr
      have hpw : (0 : Int) < 2 ^ m := Int.pow_pos (by decide)
      have hs := kf_succ p (35 - (m + 1))
      rw [show 34 - (35 - (m + 1)) = m by omega, show 35 - (m + 1) + 1 = 35 - m by omega] at hs
      generalize kf p (35 - (m + 1)) = a at *
      have HS := Lib.hid hs
      clear hs
      have HW := Lib.hid (ref_within wr (a + 2 ^ m) p (by omega) (by omega) hp hp1)
      by_cases hc : (a + 2 ^ m) * (a + 2 ^ m) * (a + 2 ^ m) ≤ p * 79228162514264337593543950336
      · have hd : Hid (decide ((a + 2 ^ m) * (a + 2 ^ m) * (a + 2 ^ m) ≤ p * 79228162514264337593543950336) = true) := decide_eq_true hc
        have hv : Hid (kf p (35 - m) = a + 2 ^ m) := by unfold Hid; rw [HS.out, if_pos hc]
        clear hc
        rw [hd.out] at HW
        go_wp2_with fail
        refine HW.out.mono ?_
        rintro e w1 ⟨rfl, hb1⟩
        have hb2 : Below w.heap.size w w1 := hb.trans (hb1.mono hb.size)
        clear hb1 HW hb
        go_wp2_with fail
        go_roundw
        case rel => exact ⟨m, by omega, by go_num, by rw [hv.out], hb2⟩
        case measure => simp [intOf]
      · have hd : Hid (decide ((a + 2 ^ m) * (a + 2 ^ m) * (a + 2 ^ m) ≤ p * 79228162514264337593543950336) = false) := decide_eq_false hc
        have hv : Hid (kf p (35 - m) = a) := by unfold Hid; rw [HS.out, if_neg hc]
        clear hc
        rw [hd.out] at HW
        go_wp2_with fail
        refine HW.out.mono ?_
        rintro e w1 ⟨rfl, hb1⟩
        have hb2 : Below w.heap.size w w1 := hb.trans (hb1.mono hb.size)
        clear hb1 HW hb
        go_wp2_with fail
        go_roundw
        case rel => exact ⟨m, by omega, by go_num, by rw [hv.out], hb2⟩
        case measure => simp [intOf]
end Go.Proofs.YtnankgophbjioaaDoor
