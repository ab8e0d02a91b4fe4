
/- Listed tables of rows of numbers. -/
import Derived.Test.YtgcboodlneknpaaDoorLaid
namespace Go.Proofs.YtgcboodlneknpaaDoor
open Go.ChangeShapes Go.WideShapes Go.ChangeAt Go.RowKit

theorem laid_rows {H : Type} {enc : TypeId × Value → H} {P : Program} {W : World} {base : Nat} {sp : Nat → Bool} {held : Bool} {fuel n m : Nat} {t e q : TypeId} {k : IntKind} {cs : List Value} {rows : List (List Int)} {ps : List MemPlace}
    (ht : P.underlying t = some (.array n e)) (he : P.underlying e = some (.array m q)) (hq : P.underlying q = some (.int k)) (hce : P.cellsOf e = m) (hcq : P.cellsOf q = 1)
    (h : DataW.trod enc P W base sp held fuel t cs = some (.agg (rows.map fun zs => .agg (zs.map fun z => .lit (.int k z))), ps)) : ∀ i j, i < n → j < m → cs[i * m + j]? = some (.int k ((rows.getD i []).getD j 0)) := by
  intro i j hi hj
  obtain ⟨xs, f, rfl, hx, _, hn, hel⟩ := DataW.trod_array ht h
  have h1 := hel i hi
  rw [hce] at h1
  simp only [Prod.mk.injEq, DataW.agg.injEq] at hx
  have hxi : xs[i]? = some (xs[i]'(by omega)) := List.getElem?_eq_getElem (by omega)
  rw [hxi] at h1
  have h2 : (rows.map fun zs => (DataW.agg (zs.map fun z => .lit (.int k z)) : DataW H))[i]? = some (xs[i]'(by omega)).1 := by
    rw [hx.1, List.getElem?_map, hxi, Option.map_some]
  rw [List.getElem?_map] at h2
  cases hr : rows[i]? with
  | none => rw [hr] at h2; cases h2
  | some zs =>
    rw [hr] at h2
    have h3 : (xs[i]'(by omega)).1 = .agg (zs.map fun z => .lit (.int k z)) := by simpa using h2.symm
    obtain ⟨p, ep⟩ : ∃ p, xs[i]'(by omega) = (.agg (zs.map fun z => .lit (.int k z)), p) := ⟨(xs[i]'(by omega)).2, by rw [← h3]⟩
    rw [ep] at h1
    have h4 := laid_ints he hq hcq h1 j hj
    rw [List.getElem?_take, if_pos hj, List.getElem?_drop] at h4
    have e5 : rows.getD i [] = zs := by rw [List.getD_eq_getElem?_getD, hr]; rfl
    rw [h4, e5]
end Go.Proofs.YtgcboodlneknpaaDoor
