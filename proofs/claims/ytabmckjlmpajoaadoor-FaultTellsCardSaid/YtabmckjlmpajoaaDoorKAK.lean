/- Package hex: halves, whole. -/
import Derived.Test.YtabmckjlmpajoaaDoorRows
import Derived.Test.YtabmckjlmpajoaaDoorKAF
import Derived.Test.YtabmckjlmpajoaaDoorKAG
import Derived.Test.YtabmckjlmpajoaaDoorKAJ
import Derived.RegionTactic
namespace Go.Proofs.YtabmckjlmpajoaaDoor
open Go.RowKit

theorem turned_4 (x : Int) (h0 : 0 ≤ x) (h1 : x < 256) : bits BinOp.and IntKind.u32 (turned 32 x 4) 15 = x / 16 := by
  have : ∀ k : Fin 256, bits BinOp.and IntKind.u32 (turned 32 (k.val : Int) 4) 15 = (k.val : Int) / 16 := by decide +kernel
  have h := this ⟨x.toNat, by omega⟩
  rw [show ((x.toNat : Nat) : Int) = x by omega] at h
  exact h
theorem and_15 (x : Int) (h0 : 0 ≤ x) (h1 : x < 256) : bits BinOp.and IntKind.u32 x 15 = x % 16 := by
  have : ∀ k : Fin 256, bits BinOp.and IntKind.u32 (k.val : Int) 15 = (k.val : Int) % 16 := by decide +kernel
  have h := this ⟨x.toNat, by omega⟩
  rw [show ((x.toNat : Nat) : Int) = x by omega] at h
  exact h
theorem or_halves (a b : Int) (ha : 0 ≤ a) (ha' : a < 16) (hb : 0 ≤ b) (hb' : b < 16) : bits BinOp.or IntKind.u8 (turned 32 a 28 % 256) b = a * 16 + b := by
  have : ∀ k : Fin 16, ∀ j : Fin 16, bits BinOp.or IntKind.u8 (turned 32 (k.val : Int) 28 % 256) (j.val : Int) = (k.val : Int) * 16 + j.val := by decide +kernel
  have h := this ⟨a.toNat, by omega⟩ ⟨b.toNat, by omega⟩
  rw [show ((a.toNat : Nat) : Int) = a by omega, show ((b.toNat : Nat) : Int) = b by omega] at h
  exact h
end Go.Proofs.YtabmckjlmpajoaaDoor
