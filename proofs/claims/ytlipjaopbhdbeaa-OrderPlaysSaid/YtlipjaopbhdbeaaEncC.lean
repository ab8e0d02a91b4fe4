
/- bytes.Compare. -/
import Derived.Test.YtlipjaopbhdbeaaList
import Derived.Test.YtlipjaopbhdbeaaItemA
import Derived.Lib.BytesEntry
namespace Go.Proofs.Ytlipjaopbhdbeaa
open Go.RowKit

theorem byteL_back {xs : List Int} (h : ByteL xs) : (Lib.bytesOf xs).map (fun c => (c.toNat : Int)) = xs := by
  unfold Lib.bytesOf
  rw [List.map_map]
  conv => rhs; rw [← List.map_id xs]
  refine List.map_congr_left fun x hx => ?_
  have := h x hx
  simp only [Function.comp, id]
  rw [UInt8.toNat_ofNat']
  omega
theorem compare_nums {xs ys : List Int} (hx : ByteL xs) (hy : ByteL ys) : Lib.compareBytes (Lib.bytesOf xs) (Lib.bytesOf ys) = seqC intC xs ys := by
  rw [← textC_bytes, byteL_back hx, byteL_back hy]
theorem run_bytesOf {w : World} {A : Option Addr} {cap : Nat} {xs : List Int} (h : Rd w w.heap.size .u8 A xs) : (Extern.Bytes.bytesOf (.slice A xs.length cap)).run Try.prog w = .ok ⟨(Lib.bytesOf xs).toArray⟩ w := by
  cases A with
  | none =>
    have hx : xs = [] := by
      rcases xs with _ | ⟨x, r⟩
      · rfl
      · obtain ⟨b, o, h, _⟩ := h (by simp)
        cases h
    subst hx
    rfl
  | some a =>
    by_cases hn : xs = []
    · subst hn
      cases a
      rfl
    · obtain ⟨b, o, hA, _, hc⟩ := h (List.length_pos_iff.2 hn)
      injection hA with hA
      subst hA
      have hl := Lib.run_loadBytesX (P := Try.prog) w xs ⟨b, o, none⟩ .empty (fun j x hj => by
        have hjl : j < xs.length := (List.getElem?_eq_some_iff.1 hj).1
        rw [Addr.add_mid, hc j hjl, List.getD_eq_getElem?_getD, hj]
        rfl)
      show (Extern.Bytes.loadBytes ⟨b, o, none⟩ xs.length .empty).run Try.prog w = _
      rw [hl]
      congr 1
      apply ByteArray.ext
      show (#[] : Array UInt8) ++ (Lib.bytesOf xs).toArray = (Lib.bytesOf xs).toArray
      simp
theorem run_compareSlices {w : World} {A1 A2 : Option Addr} {c1 c2 : Nat} {xs ys : List Int} (h1 : Rd w w.heap.size .u8 A1 xs) (h2 : Rd w w.heap.size .u8 A2 ys) (hx : ByteL xs) (hy : ByteL ys) :
    (Extern.BytealgCompare.compare #[.slice A1 xs.length c1, .slice A2 ys.length c2]).run Try.prog w = .ok (.int .i64 (seqC intC xs ys)) w := by
  change Sem.run Try.prog (do pure (goInt (Extern.BytealgCompare.cmp (← Extern.Bytes.bytesOf (.slice A1 xs.length c1)) (← Extern.Bytes.bytesOf (.slice A2 ys.length c2))))) w = _
  simp only [Sem.run_bind, run_bytesOf h1, run_bytesOf h2, Sem.run_pure, Result.andThen]
  rw [Lib.cmp_eq, ← compare_nums hx hy]
  rfl
set_option maxRecDepth 100000 in
theorem bytes_compare (A1 A2 : Option Addr) (c1 c2 : Nat) (xs ys : List Int) (w : World) (h1 : Rd w w.heap.size .u8 A1 xs) (h2 : Rd w w.heap.size .u8 A2 ys) (hx : ByteL xs) (hy : ByteL ys) :
    Calls Try.prog 28 #[.slice A1 xs.length c1, .slice A2 ys.length c2] w fun e w' => e = .returned (.int .i64 (seqC intC xs ys)) ∧ w' = w := by
  have hr := run_compareSlices (c1 := c1) (c2 := c2) h1 h2 hx hy
  obtain ⟨z, hz⟩ : ∃ z, seqC intC xs ys = z := ⟨_, rfl⟩
  rw [hz] at hr ⊢
  have HR := Lib.hid hr
  clear hr h1 h2 hx hy hz
  go_enter Try.func28, Try.ntmps28
  go_wp2
  rw [run_callFunc_extern Try.func34 (by kernel_rfl) (by kernel_rfl) (by kernel_rfl) (e := Extern.BytealgCompare.compare) (by kernel_rfl), HR.out]
  simp only [Result.andThen]
  rw [Oper.upon_value]
  go_wp2
  go_ret
  exact ⟨rfl, rfl⟩
end Go.Proofs.Ytlipjaopbhdbeaa
