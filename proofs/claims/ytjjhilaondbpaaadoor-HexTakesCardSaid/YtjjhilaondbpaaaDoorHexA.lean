
/- Package hex: halves, whole. -/
import Derived.Test.YtjjhilaondbpaaaDoorRows
import Derived.Test.YtjjhilaondbpaaaDoorTurn
import Derived.Test.YtjjhilaondbpaaaDoorShelf
import Derived.Test.YtjjhilaondbpaaaDoorHexP
import Derived.RegionTactic
namespace Go.Proofs.YtjjhilaondbpaaaDoor
open Go.RowKit

theorem turned_4 (x : Int) (h0 : 0 ≤ x) (h1 : x < 256) : bits BinOp.and IntKind.u32 (turned 32 x 4) 15 = x / 16 := by
  have : ∀ k : Fin 256, bits BinOp.and IntKind.u32 (turned 32 (k.val : Int) 4) 15 = (k.val : Int) / 16 := by decide +kernel
  have h := this ⟨x.toNat, by omega⟩
  rw [show ((x.toNat : Nat) : Int) = x by omega] at h
  exact h
theorem and_15 (x : Int) (h0 : 0 ≤ x) (h1 : x < 256) : bits BinOp.and IntKind.u32 x 15 = x % 16 := by
  have : ∀ k : Fin 256, bits BinOp.and IntKind.u32 (k.val : Int) 15 = (k.val : Int) % 16 := by decide +kernel
  have h := this ⟨x.toNat, by omega⟩
  rw [show ((x.toNat : Nat) : Int) = x by omega] at h
  exact h
theorem hex_halves (x : Int) (h0 : 0 ≤ x) (h1 : x < 256) (w : World) :
    Calls Tryd.prog 14 #[.int .u8 x] w fun e w' => e = .returned (.tuple #[.int .u32 (x / 16), .int .u32 (x % 16)]) ∧ w = w' := by
  have H1 := turned_4 x h0 h1
  have H2 := and_15 x h0 h1
  go_enter Tryd.func14, Tryd.ntmps14
  go_wp2_with (go_at_call 19; refine (Right32 _ _ (by omega) (by omega) _).mono ?_; rintro e w' ⟨rfl, rfl⟩)
  go_ret2
  exact ⟨rfl, rfl⟩
theorem or_halves (a b : Int) (ha : 0 ≤ a) (ha' : a < 16) (hb : 0 ≤ b) (hb' : b < 16) : bits BinOp.or IntKind.u8 (turned 32 a 28 % 256) b = a * 16 + b := by
  have : ∀ k : Fin 16, ∀ j : Fin 16, bits BinOp.or IntKind.u8 (turned 32 (k.val : Int) 28 % 256) (j.val : Int) = (k.val : Int) * 16 + j.val := by decide +kernel
  have h := this ⟨a.toNat, by omega⟩ ⟨b.toNat, by omega⟩
  rw [show ((a.toNat : Nat) : Int) = a by omega, show ((b.toNat : Nat) : Int) = b by omega] at h
  exact h
theorem hex_whole_bad (c d : Int) (h0 : 0 ≤ c) (h1 : c < 256) (g0 : 0 ≤ d) (g1 : d < 256) (hx : hexv c < 0 ∨ hexv d < 0) (w : World) :
    Calls Tryd.prog 13 #[.int .u8 c, .int .u8 d] w fun e w' => e = .returned (.tuple #[.int .u8 0, .bool false]) ∧ w' = w := by
  have H1 := hex_find c h0 h1
  have H2 := hex_find d g0 g1
  have C1 := Lib.hid (fun w => Tryd.strings_IndexByte hexDigits c w)
  have C2 := Lib.hid (fun w => Tryd.strings_IndexByte hexDigits d w)
  rw [H1] at C1
  rw [H2] at C2
  unfold hexDigits at C1 C2
  clear H1 H2
  generalize hexv c = x at *
  generalize hexv d = y at *
  go_enter Tryd.func13, Tryd.ntmps13
  by_cases hx0 : x < 0
  · go_wp2_with (first
      | (go_at_call 18; with_reducible refine (C1.out _).mono ?_; rintro e w' ⟨rfl, rfl⟩)
      | (go_at_call 18; with_reducible refine (C2.out _).mono ?_; rintro e w' ⟨rfl, rfl⟩))
    go_ret2
    exact ⟨rfl, rfl⟩
  · have hy0 : y < 0 := by omega
    go_wp2_with (first
      | (go_at_call 18; with_reducible refine (C1.out _).mono ?_; rintro e w' ⟨rfl, rfl⟩)
      | (go_at_call 18; with_reducible refine (C2.out _).mono ?_; rintro e w' ⟨rfl, rfl⟩))
    go_ret2
    exact ⟨rfl, rfl⟩
theorem hex_whole_good (c d : Int) (h0 : 0 ≤ c) (h1 : c < 256) (g0 : 0 ≤ d) (g1 : d < 256) (hx0 : 0 ≤ hexv c) (hy0 : 0 ≤ hexv d) (w : World) :
    Calls Tryd.prog 13 #[.int .u8 c, .int .u8 d] w fun e w' => e = .returned (.tuple #[.int .u8 (hexv c * 16 + hexv d), .bool true]) ∧ w' = w := by
  have H1 := hex_find c h0 h1
  have H2 := hex_find d g0 g1
  have C1 := Lib.hid (fun w => Tryd.strings_IndexByte hexDigits c w)
  have C2 := Lib.hid (fun w => Tryd.strings_IndexByte hexDigits d w)
  rw [H1] at C1
  rw [H2] at C2
  unfold hexDigits at C1 C2
  clear H1 H2
  have R1 := (hexd_hexv c hx0).2
  have R2 := (hexd_hexv d hy0).2
  generalize hexv c = x at *
  generalize hexv d = y at *
  have HO := or_halves x y hx0 R1 hy0 R2
  have HR := Lib.hid (fun w => Right32 x (-4) hx0 (by omega) w)
  rw [show ((-4 : Int) % 32).toNat = 28 by decide] at HR
  have W1 : IntKind.u32.wrap x = x := by rw [IntKind.wrap_u32]; omega
  go_enter Tryd.func13, Tryd.ntmps13
  go_wp2_with (first
    | (go_at_call 18; with_reducible refine (C1.out _).mono ?_; rintro e w' ⟨rfl, rfl⟩)
    | (go_at_call 18; with_reducible refine (C2.out _).mono ?_; rintro e w' ⟨rfl, rfl⟩)
    | (go_at_call 19; with_reducible refine (HR.out _).mono ?_; rintro e w' ⟨rfl, rfl⟩))
  go_ret2
  exact ⟨rfl, rfl⟩
end Go.Proofs.YtjjhilaondbpaaaDoor
