
/- Package sha's laws: the document's example. -/
import Derived.Test.YtnankgophbjioaaDoorShaH
import Derived.Lib.SlBytesConst
namespace Go.Proofs.YtnankgophbjioaaDoor
open Go.RowKit

/-- The bytes of a constant text. -/
theorem const_rd (w : World) (e : TypeId) (zs : List Int) (fr : Nat × Nat) : Rd (w.alloc (.cells (nums .u8 zs) e fr)) (w.alloc (.cells (nums .u8 zs) e fr)).heap.size .u8 (some ⟨w.heap.size, 0, none⟩) zs :=
  fun _ => ⟨_, _, rfl, by simp, fun i hi => by
    rw [Nat.zero_add, cell_of_row _ _ i (nums .u8 zs) e fr (heap_alloc_new w _)]
    exact nums_get .u8 zs i hi⟩
theorem abc_bytes : (shaL [97, 98, 99]).length = 32 ∧ (shaL [97, 98, 99]).getD 0 0 = 186 ∧ (shaL [97, 98, 99]).getD 1 0 = 120 ∧ (shaL [97, 98, 99]).getD 31 0 = 173 := by decide +kernel
set_option maxHeartbeats 400000 in
theorem sha_awake (w : World) (T : Tabs w) : Calls Tryd.prog 5 #[] w fun e w' => e = .returned (.bool true) ∧ Below w.heap.size w w' := by
  obtain ⟨a0, a1, a2, a3⟩ := abc_bytes
  have kc := fun (w : World) (C : Array Value) (n c : Nat) => Lib.run_convert_bytes_const (P := Tryd.prog) w 22 5 C n c Tryd.underlying22 Tryd.underlying5
  have hb0 := below_alloc w (.cells (nums .u8 [97, 98, 99]) 5 (3, 3 + 1))
  have H := Lib.hid (sha_Sum (w.alloc (.cells (nums .u8 [97, 98, 99]) 5 (3, 3 + 1))) [97, 98, 99] _ 3 (by decide) (by unfold ByteL; decide) (by decide) (const_rd w 5 [97, 98, 99] (3, 3 + 1)) (T.below hb0))
  obtain ⟨S, eS⟩ : ∃ S, shaL [97, 98, 99] = S := ⟨_, rfl⟩
  rw [eS] at H a0 a1 a2 a3
  clear eS
  go_enter Tryd.func5, Tryd.ntmps5
  go_wp2_with fail
  refine H.out.mono ?_
  rintro e w1 ⟨A, cap, rfl, _, hr, hb1⟩
  have hb2 : Below w.heap.size w w1 := hb0.trans (hb1.mono hb0.size)
  obtain ⟨b, o, rfl, _, hc⟩ := hr (by omega)
  have c0 := hc 0 (by omega)
  have c1 := hc 1 (by omega)
  have c31 := hc 31 (by omega)
  rw [a1, Nat.add_zero] at c0
  rw [a2] at c1
  rw [a3] at c31
  clear hc hb1 hb0 H a0 a1 a2 a3 hr kc
  go_wp2
  go_ret
  exact ⟨rfl, hb2⟩
end Go.Proofs.YtnankgophbjioaaDoor
