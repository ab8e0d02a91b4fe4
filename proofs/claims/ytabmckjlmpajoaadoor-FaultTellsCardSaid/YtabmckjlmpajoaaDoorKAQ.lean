/- Package hex: Put. -/
import Derived.Test.YtabmckjlmpajoaaDoorKAK
import Derived.Test.YtabmckjlmpajoaaDoorKAO
import Derived.Test.YtabmckjlmpajoaaDoorKAP
import Derived.Deep.RegionHeld3
import Derived.Deep.LoopGhost
namespace Go.Proofs.YtabmckjlmpajoaaDoor
open Go.RowKit

theorem hinfo5 : (Tryd.prog.info? 5).map (fun i => (i.zero, i.size, i.bytes)) = some (some (.int .u8 0), 1, 1) := by kernel_rfl
/-- A text's byte at an index of whatever kind. -/
theorem run_sbk {P : Program} {t : TypeId} (ht : P.underlying t = some .string) (k : IntKind) (w : World) (s : ByteArray) (n : Nat) (h : n < s.size) (i : Int) (hi : i = n) : (Instr.index t (.string s) (.int k i)).run P w = .ok (.int .u8 (sb s n)) w := by
  subst hi
  rw [run_index_string w t s k n ht, dif_pos (by omega)]
  show Result.ok (Value.int .u8 ((s[(n : Int).toNat]'_).toNat : Int)) w = _
  rw [show ((s[(n : Int).toNat]'(by omega)).toNat : Int) = ((s[n]'h).toNat : Int) from rfl, sb_eq]
theorem run_digit (k : IntKind) (x : Int) (h0 : 0 ≤ x) (h1 : x < 16) (w : World) : (Instr.index 9 (.string hexDigits) (.int k x)).run Tryd.prog w = .ok (.int .u8 (hexd x)) w := by
  have h := hexDigits_at ⟨x.toNat, by omega⟩
  rw [run_sbk Tryd.underlying9 k w hexDigits x.toNat (by rw [show hexDigits.size = 16 by decide +kernel]; omega) x (by omega), h, show (((⟨x.toNat, by omega⟩ : Fin 16).val : Nat) : Int) = x by simp; omega]

end Go.Proofs.YtabmckjlmpajoaaDoor
