
/- Listed tables of numbers: what the condition 'laid' gives. -/
import Derived.Test.YtgcboodlneknpaaDoorWords
import Derived.LaidMore
import Derived.OpenShut
import Derived.Stop.Joined
namespace Go.Proofs.YtgcboodlneknpaaDoor
open Go.ChangeShapes Go.WideShapes Go.ChangeAt Go.RowKit

theorem laid_ints {H : Type} {enc : TypeId × Value → H} {P : Program} {W : World} {base : Nat} {sp : Nat → Bool} {held : Bool} {fuel n : Nat} {t e : TypeId} {k : IntKind} {cs : List Value} {zs : List Int} {ps : List MemPlace}
    (ht : P.underlying t = some (.array n e)) (he : P.underlying e = some (.int k)) (hce : P.cellsOf e = 1)
    (h : DataW.trod enc P W base sp held fuel t cs = some (.agg (zs.map fun z => .lit (.int k z)), ps)) : ∀ i, i < n → cs[i]? = some (.int k (zs.getD i 0)) := by
  intro i hi
  obtain ⟨xs, m, rfl, hx, _, hn, hel⟩ := DataW.trod_array ht h
  have h1 := hel i hi
  rw [hce, Nat.mul_one] at h1
  simp only [Prod.mk.injEq, DataW.agg.injEq] at hx
  have hxi : xs[i]? = some (xs[i]'(by omega)) := List.getElem?_eq_getElem (by omega)
  rw [hxi] at h1
  obtain ⟨z, hc, hz, _⟩ := DataW.trod_int he h1
  have h2 : (zs.map fun z => (DataW.lit (.int k z) : DataW H))[i]? = some (DataW.lit (.int k z)) := by
    rw [hx.1, List.getElem?_map, hxi, Option.map_some, hz]
  rw [List.getElem?_map] at h2
  cases hzi : zs[i]? with
  | none => rw [hzi] at h2; cases h2
  | some y =>
    rw [hzi] at h2
    have hy : y = z := by simpa using h2
    have h3 : ((cs.drop i).take 1)[0]? = some (.int k z) := by rw [hc]; rfl
    rw [List.getElem?_take, if_pos (by omega), List.getElem?_drop, Nat.add_zero] at h3
    rw [h3, List.getD_eq_getElem?_getD, hzi, hy]
    rfl
end Go.Proofs.YtgcboodlneknpaaDoor
