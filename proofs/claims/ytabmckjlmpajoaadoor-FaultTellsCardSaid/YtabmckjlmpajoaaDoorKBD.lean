/- A table on the list of those that are laid, wherever it stands on it. -/
import Derived.Test.YtabmckjlmpajoaaDoorKAA
import Derived.Lib.LaidTab
import Derived.LaidMore
import Derived.Stop.Joined
import Derived.Stop.LaidErr
namespace Go.Proofs.YtabmckjlmpajoaaDoor
open Go.ChangeShapes Go.WideShapes Go.ChangeAt Go.RowKit

theorem tab_at {P : Program} {W : World} {name : String} {k : IntKind} {zs : List Int} {g : Nat} {t e : TypeId} {n : Nat}
    (hg : P.globalNamed name = some g) (hty : (P.globals[g]?).map (·.type) = some t) (ht : P.underlying t = some (.array n e)) (he : P.underlying e = some (.int k)) (hce : P.cellsOf e = 1) (hct : P.cellsOf t = n) :
    ∀ (i : Nat) (l : List (String × DataW Unit)), laidMet P l W → l[i]? = some (name, Lib.tabData k zs) → Lib.TabIs P W name k zs := by
  intro i
  induction i with
  | zero =>
    intro l h hi
    cases l with
    | nil => cases hi
    | cons x r =>
      simp only [List.getElem?_cons_zero, Option.some.injEq] at hi
      subst hi
      exact Lib.tabIs_of_head hg hty ht he hce hct h
  | succ i ih =>
    intro l h hi
    cases l with
    | nil => cases hi
    | cons x r => exact ih r (laidMet.tail h) (by simpa using hi)
end Go.Proofs.YtabmckjlmpajoaaDoor
