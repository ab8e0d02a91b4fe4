
/- Package float: Widen, NaN. -/
import Derived.Test.YtobolfnokjekcaaFloatD
namespace Go.Proofs.Ytobolfnokjekcaa
open Go.RowKit
theorem float_NaN (x : Nat) (hx : x < 18446744073709551616) (w : World) :
    Calls Try.prog 32 #[.int .u64 x] w fun e w' => e = .returned (.bool (decide (FNan 11 52 x))) ∧ Below w.heap.size w w' := by
  have h1 := Lib.hid (float_split .double x hx)
  have h2 := Lib.hid (float_isNaN .double (fsg 11 52 x) (fex 11 52 x) (ffr 52 x))
  have e : decide ((fex 11 52 x : Int) = 2047 ∧ (ffr 52 x : Int) ≠ 0) = decide (FNan 11 52 x) := by
    unfold FNan
    have : ((fex 11 52 x : Int) = 2047 ∧ (ffr 52 x : Int) ≠ 0) ↔ (fex 11 52 x = 2 ^ 11 - 1 ∧ ffr 52 x ≠ 0) := by omega
    simp only [this]
  rw [e] at h2
  go_enter Try.func32, Try.ntmps32
  go_wp2_with (first | (go_at_call 42; refine (h1.out _).mono ?_; rintro r w' ⟨rfl, S1⟩) | (go_at_call 41; refine (h2.out _).mono ?_; rintro r w'' ⟨rfl, S2⟩))
  go_ret
  exact ⟨rfl, S1.trans (S2.mono S1.size)⟩
end Go.Proofs.Ytobolfnokjekcaa
