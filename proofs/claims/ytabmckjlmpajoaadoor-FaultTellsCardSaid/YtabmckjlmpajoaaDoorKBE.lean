/- The laws' list of laid variables: what the condition gives, and a start that meets it. -/
import Derived.Test.YtabmckjlmpajoaaDoorKBC
import Derived.Test.YtabmckjlmpajoaaDoorKAT
import Derived.Test.YtabmckjlmpajoaaDoorKBD
import Derived.Test.YtabmckjlmpajoaaDoorKAV
import Derived.Test.YtabmckjlmpajoaaDoorRows
import Derived.LaidHandle
namespace Go.Proofs.YtabmckjlmpajoaaDoor
open Go.ChangeShapes Go.WideShapes Go.ChangeAt Go.RowKit

def laid4 : List (String × DataW Unit) := [("math/bits.deBruijn32tab", Rows.laid_math_bits_deBruijn32tab), ("math/bits.deBruijn64tab", Rows.laid_math_bits_deBruijn64tab), ("internal/strconv.uint64pow10", Rows.laid_internal_strconv_uint64pow10), ("errors.errorType", Rows.laid_errors_errorType)]
theorem tPow : (Tryd.prog.globals[1]?).map (·.type) = some 93 := by kernel_rfl
theorem cellsU64 : Tryd.prog.cellsOf 85 = 1 := by kernel_rfl
theorem cellsPow : Tryd.prog.cellsOf 93 = 20 := by kernel_rfl
theorem arrPow : Tryd.prog.underlying 93 = some (.array 20 85) := by kernel_rfl
theorem tab_of_laid {W : World} (h : laidMetH Tryd.prog laid4 W) : Tab W := by
  have h' : laidMet Tryd.prog (laid4.filter fun x => x.2.handleName?.isNone) W ∧ handlesMet Tryd.prog (laid4.filter fun x => x.2.handleName?.isSome) W := h
  exact tab_at gPow tPow arrPow Tryd.underlying85 cellsU64 cellsPow 2 _ h'.1 rfl
theorem gErr : Tryd.prog.globalNamed "errors.errorType" = some 0 := by kernel_rfl
theorem rErr : (Tryd.prog.cutTypes.find? (·.1 == "internal/reflectlite.rtype")).map (·.2) = some 69 := by kernel_rfl
theorem rowErr : ((List.range Tryd.prog.types.size).filter fun t => Tryd.prog.rowNamed t [101, 114, 114, 111, 114]) = [28] := by kernel_rfl
theorem err_of_laid {W : World} (h : laidMetH Tryd.prog laid4 W) : ErrT W := by
  have h' : laidMet Tryd.prog (laid4.filter fun x => x.2.handleName?.isNone) W ∧ handlesMet Tryd.prog (laid4.filter fun x => x.2.handleName?.isSome) W := h
  obtain ⟨name, u, ty, e1, e2, e3, e4, e5⟩ := h'.2 ("errors.errorType", Rows.laid_errors_errorType) (by simp [laid4, Rows.laid_errors_errorType, DataW.handleName?])
  have en : name = [101, 114, 114, 111, 114] := (Option.some.inj e1).symm
  subst en
  obtain rfl := Option.some.inj (rErr.symm.trans e2)
  have hm : ty ∈ (List.range Tryd.prog.types.size).filter fun t => Tryd.prog.rowNamed t [101, 114, 114, 111, 114] := List.mem_filter.2 ⟨List.mem_range.2 e3, e4⟩
  rw [rowErr] at hm
  obtain rfl := List.mem_singleton.1 hm
  have hh : typeHandle Tryd.prog 28 = .pointer (some ⟨4, 28, none⟩) := by kernel_rfl
  rw [hh] at e5
  unfold ErrT
  simpa using World.var?_cell gErr e5 0
theorem own : ownKnob Tryd.prog.godebug = none := by kernel_rfl
theorem laidOut : laidOutB Tryd.prog = true := by kernel_rfl
set_option maxRecDepth 100000 in
/-- The door's own heap meets the condition. -/
theorem door_met4 (os : Os) (args : Array Value) : laidMetH Tryd.prog laid4 ((World.doorLaid Tryd.prog 400 os).forCall (fun _ _ => 0) ⟨#[], args, []⟩).memory :=
  laidMetH_of_parts3 (fuel := 8) (laidMet_of_run' 8 (by kernel_rfl) (by kernel_rfl)) (by kernel_rfl) (by kernel_rfl)

section
variable {H : Type} {enc : TypeId × Value → H} {W : World}
set_option maxRecDepth 100000 in
/-- A verdict among the arguments. -/
theorem open_verdict {b0 : Nat} {v : Value} {d : DataW H} {ps : List MemPlace} (hval : Value.okWide Tryd.prog W .any b0 24 v) (hd : DataW.Trod enc Tryd.prog W 0 (fun _ => true) true 24 v d ps) :
    ∃ e a, v = .agg #[.int .i64 e, .int .i64 a] ∧ (Lit.int .i64 e).wf = true ∧ (Lit.int .i64 a).wf = true := by
  obtain ⟨cs, rfl, _⟩ := okWide_struct Tryd.underlying24 hval
  obtain ⟨fuel, h⟩ := hd
  obtain ⟨xs, m, rfl, _, hl, hlen, hf⟩ := DataW.trod_struct Tryd.underlying24 h
  have hC : Tryd.prog.cellsOf 24 = 2 := by kernel_rfl
  rw [hC] at hl
  obtain ⟨c0, c1, hc⟩ : ∃ c0 c1, (Value.agg cs).cells.toList = [c0, c1] := by
    match (Value.agg cs).cells.toList, hl with
    | [c0, c1], _ => exact ⟨c0, c1, rfl⟩
  obtain ⟨y0, y1, rfl⟩ : ∃ y0 y1, xs = [y0, y1] := by
    match xs, hlen with
    | [y0, y1], _ => exact ⟨y0, y1, rfl⟩
  have g0 := hf 0 _ rfl
  have g1 := hf 1 _ rfl
  have k0 : Tryd.prog.cellsOf 22 = 1 := by kernel_rfl
  have k1 : Tryd.prog.cellsOf 3 = 1 := by kernel_rfl
  rw [hc] at g0 g1
  simp [k0, k1] at g0 g1
  obtain ⟨a, e0, _, w0⟩ := DataW.trod_int Tryd.underlying22 g0
  obtain ⟨b, e1, _, w1⟩ := DataW.trod_int Tryd.underlying3 g1
  injection e0 with e0
  injection e1 with e1
  subst e0 e1
  refine ⟨a, b, ?_, w0, w1⟩
  congr 1
  apply Array.ext'
  simpa [Value.cells] using hc
end
theorem i64_of_wf {n : Int} (h : (Lit.int .i64 n).wf = true) : -9223372036854775808 ≤ n ∧ n ≤ 9223372036854775807 := by simpa [Lit.wf, IntKind.min, IntKind.max, IntKind.bits, IntKind.signed] using h
end Go.Proofs.YtabmckjlmpajoaaDoor
