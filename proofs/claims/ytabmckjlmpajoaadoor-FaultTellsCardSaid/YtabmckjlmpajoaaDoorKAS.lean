/- The document's answer for digits: Put, Take. -/
import Derived.Test.YtabmckjlmpajoaaDoorKAR
namespace Go.Proofs.YtabmckjlmpajoaaDoor
open Go.RowKit

/-- A digit cut out of the sixteen. -/
theorem run_digit_cut (x : Int) (h0 : 0 ≤ x) (h1 : x < 16) (w : World) : (Instr.slice 9 (.string hexDigits) (some (.int .i64 x)) (some (.int .i64 (x + 1))) none).run Tryd.prog w = .ok (.string (strOfNums [hexd x])) w := by
  obtain ⟨k, rfl⟩ : ∃ k : Nat, x = k := ⟨x.toNat, by omega⟩
  rw [run_slice_string w 9 hexDigits .i64 .i64 _ _ Tryd.underlying9 (by omega) (by omega) (by rw [show hexDigits.size = 16 by decide +kernel]; omega), show ((k : Int)).toNat = k by omega, show ((k : Int) + 1).toNat = k + 1 by omega, hex_cut k (by omega)]

end Go.Proofs.YtabmckjlmpajoaaDoor
