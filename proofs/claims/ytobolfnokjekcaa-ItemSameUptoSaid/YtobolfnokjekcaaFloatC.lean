
/- Package float: a number below the least normal one. -/
import Derived.Test.YtobolfnokjekcaaFloatB
namespace Go.Proofs.Ytobolfnokjekcaa
open Go.RowKit
def cellInt (g o : Nat) (w : World) : Nat := match w.cell? ⟨g, o, none⟩ with | some v => (intOf v).toNat | none => 0
theorem cellInt_of {w : World} {g o : Nat} {k : IntKind} {n : Int} (h : w.cell? ⟨g, o, none⟩ = some (.int k n)) : cellInt g o w = n.toNat := by
  unfold cellInt; rw [h]; rfl
def upN (f k : Nat) : Nat := f * 2 ^ k
def dnN (c k : Nat) : Nat := c - k
theorem upN_eq (f k : Nat) : upN f k = f * 2 ^ k := rfl
theorem dnN_eq (c k : Nat) : dnN c k = c - k := rfl
attribute [irreducible] upN dnN
end Go.Proofs.Ytobolfnokjekcaa
