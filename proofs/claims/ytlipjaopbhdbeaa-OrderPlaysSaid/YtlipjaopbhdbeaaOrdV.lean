
/- The document's example of keys, as the law of layer 10 asks for it. -/
import Derived.Test.YtlipjaopbhdbeaaOrdC
import Derived.Test.YtlipjaopbhdbeaaOrdR
namespace Go.Proofs.Ytlipjaopbhdbeaa
open Go.RowKit

set_option maxRecDepth 100000 in
theorem order_awake (w : World) : Calls Try.prog 11 #[] w fun e w' => e = .returned (.bool true) ∧ Below w.heap.size w w' := by
  go_enter Try.func11, Try.ntmps11
  go_wp2_with fail
  refine (order_New w 3 3 rfl).mono ?_
  rintro e w1 ⟨g, p, q, rfl, hg, hp, hq, K1, B1⟩
  have hs := B1.size
  have H1 := Lib.hid (order_Byte w1 g p q 3 [] [] false 97 K1 (by decide))
  have B1 := Lib.hid B1
  clear K1
  go_wp2_with fail
  refine H1.out.mono ?_
  rintro e w2 ⟨rfl, K2, T2⟩
  have H2 := Lib.hid (order_End w2 g p q 3 _ _ _ K2 (by unfold ByteL; decide) (by unfold ByteL; decide))
  rw [show (!false || ahead [] ([] ++ [97])) = true from rfl] at H2
  have B2 := Lib.hid (B1.out.trans (T2.below hs hg hp hq))
  have hs := B2.out.size
  clear K2 T2 H1
  go_wp2_with fail
  refine H2.out.mono ?_
  rintro e w3 ⟨rfl, K3, T3⟩
  have H3 := Lib.hid (order_Byte w3 g q p 3 _ _ _ 98 K3 (by decide))
  have B3 := Lib.hid (B2.out.trans (T3.below hs hg hp hq))
  have hs := B3.out.size
  clear K3 T3 H2
  go_wp2_with fail
  refine H3.out.mono ?_
  rintro e w4 ⟨rfl, K4, T4⟩
  have H4 := Lib.hid (order_End w4 g q p 3 _ _ _ K4 (by unfold ByteL; decide) (by unfold ByteL; decide))
  rw [show (!true || ahead ([] ++ [97]) ([] ++ [98])) = true by decide +kernel] at H4
  have B4 := Lib.hid (B3.out.trans (T4.below hs hg hq hp))
  have hs := B4.out.size
  clear K4 T4 H3
  go_wp2_with fail
  refine H4.out.mono ?_
  rintro e w5 ⟨rfl, K5, T5⟩
  have H5 := Lib.hid (order_Byte w5 g p q 3 _ _ _ 97 K5 (by decide))
  have B5 := Lib.hid (B4.out.trans (T5.below hs hg hq hp))
  have hs := B5.out.size
  clear K5 T5 H4
  go_wp2_with fail
  refine H5.out.mono ?_
  rintro e w6 ⟨rfl, K6, T6⟩
  have H6 := Lib.hid (order_End w6 g p q 3 _ _ _ K6 (by unfold ByteL; decide) (by unfold ByteL; decide))
  rw [show (!true || ahead ([] ++ [98]) ([] ++ [97])) = false by decide +kernel] at H6
  have B6 := Lib.hid (B5.out.trans (T6.below hs hg hp hq))
  have hs := B6.out.size
  clear K6 T6 H5
  go_wp2_with (go_at_call 17; with_reducible refine H6.out.mono ?_; rintro e w7 ⟨rfl, K7, T7⟩)
  go_ret
  exact ⟨rfl, B6.out.trans (T7.below hs hg hp hq)⟩
end Go.Proofs.Ytlipjaopbhdbeaa
