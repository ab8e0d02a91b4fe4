/- The contract of what holds two lists of bytes against each other. -/
import Derived.Test.YtabmckjlmpajoaaDoorRows
import Derived.Test.YtabmckjlmpajoaaDoorKAL
import Derived.Test.YtabmckjlmpajoaaDoorKAH
import Derived.Laws.BytesArg
namespace Go.Proofs.YtabmckjlmpajoaaDoor
open Go.RowKit

theorem run_str {P : Program} {src e dst : TypeId} (hs : P.underlying src = some (.slice e)) (he : P.underlying e = some (.int .u8)) (hd : P.underlying dst = some .string) {w : World} {B : Nat} {A : Option Addr} {zs : List Int} (cap : Nat) (hr : Rd w B .u8 A zs) :
    (convert src dst (.slice A zs.length cap)).run P w = .ok (.string (strOfNums zs)) w := by
  by_cases h0 : 0 < zs.length
  · obtain ⟨b, o, rfl, _, hc⟩ := hr h0
    exact run_convert_bytes_arg w src e hs he b o zs.length cap zs rfl hc dst hd
  · have hz : zs = [] := List.eq_nil_of_length_eq_zero (by omega)
    subst hz
    rw [run_convert_bytes_string w src dst e A _ _ hs he hd]
    cases A with
    | none => rfl
    | some a => exact run_bytesToString w a 0 cap [] (by simpa using run_loadCells_list (P := P) w a [] (by simp))
theorem str_list (zs : List Int) : (strOfNums zs).toList = zs.map (fun n => UInt8.ofNat n.toNat) := by rw [ByteArray.toList_eq, strOfNums_data]
theorem bytes_inj {a b : List Int} (ha : ByteL a) (hb : ByteL b) (h1 : a.map (fun n => UInt8.ofNat n.toNat) = b.map (fun n => UInt8.ofNat n.toNat)) : a = b := by
  have hl : a.length = b.length := by simpa using congrArg List.length h1
  apply List.ext_getElem hl
  intro i i1 i2
  have h2 := congrArg (fun l => l[i]?) h1
  simp only [List.getElem?_map, List.getElem?_eq_getElem i1, List.getElem?_eq_getElem i2, Option.map_some, Option.some.injEq] at h2
  have a1 := ha _ (List.getElem_mem i1)
  have b1 := hb _ (List.getElem_mem i2)
  have h3 := congrArg UInt8.toNat h2
  simp only [UInt8.toNat_ofNat'] at h3
  omega
end Go.Proofs.YtabmckjlmpajoaaDoor
