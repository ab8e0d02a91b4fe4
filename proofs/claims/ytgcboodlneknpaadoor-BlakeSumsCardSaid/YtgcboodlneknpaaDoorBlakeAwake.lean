
/- Package blake's laws: the document's example. -/
import Derived.Test.YtgcboodlneknpaaDoorBlakeF
namespace Go.Proofs.YtgcboodlneknpaaDoor
open Go.RowKit

theorem blake_nil : (blakeL []).length = 32 ∧ (blakeL []).getD 0 0 = 14 ∧ (blakeL []).getD 1 0 = 87 ∧ (blakeL []).getD 31 0 = 168 := by decide +kernel
set_option maxHeartbeats 400000 in
theorem blake_awake (w : World) (T : BTabs w) : Calls Tryd.prog 5 #[] w fun e w' => e = .returned (.bool true) ∧ Below w.heap.size w w' := by
  obtain ⟨a0, a1, a2, a3⟩ := blake_nil
  have H := Lib.hid (blake_Sum w [] none 0 (by decide) (fun c hc => by cases hc) (by decide) (fun h => absurd h (by simp)) T)
  obtain ⟨S, eS⟩ : ∃ S, blakeL [] = S := ⟨_, rfl⟩
  rw [eS] at H a0 a1 a2 a3
  clear eS
  go_enter Tryd.func5, Tryd.ntmps5
  go_wp2_with fail
  refine H.out.mono ?_
  rintro e w1 ⟨A, cap, rfl, _, hr, hb2⟩
  obtain ⟨b, o, rfl, _, hc⟩ := hr (by omega)
  have c0 := hc 0 (by omega)
  have c1 := hc 1 (by omega)
  have c31 := hc 31 (by omega)
  rw [a1, Nat.add_zero] at c0
  rw [a2] at c1
  rw [a3] at c31
  clear hc H a0 a1 a2 a3 hr
  go_wp2
  go_ret
  exact ⟨rfl, hb2⟩
end Go.Proofs.YtgcboodlneknpaaDoor
