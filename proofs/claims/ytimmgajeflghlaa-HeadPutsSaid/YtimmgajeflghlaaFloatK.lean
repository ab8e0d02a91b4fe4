
/- Floats: any width; whether a form is the shortest one. -/
import Derived.Test.YtimmgajeflghlaaFloatJ
namespace Go.Proofs.Ytimmgajeflghlaa
open Go.RowKit
def WPost (W : Int) (x : Nat) (e : Ending) : Prop := (∃ z : Nat, e = .returned (.tuple #[.int .u64 z, .bool true]) ∧ Wd W x z) ∨ (e = .returned (.tuple #[.int .u64 0, .bool false]) ∧ ∀ z, ¬ Wd W x z)
theorem no_half {x : Nat} (h : 65536 ≤ x) (z : Nat) : ¬ Wd 2 x z := by
  rintro (⟨_, a⟩ | ⟨a, _⟩ | ⟨a, _⟩)
  · have := a.1; omega
  · omega
  · omega
theorem no_single {x : Nat} (h : 4294967296 ≤ x) (z : Nat) : ¬ Wd 4 x z := by
  rintro (⟨a, _⟩ | ⟨_, a⟩ | ⟨a, _⟩)
  · omega
  · have := a.1; omega
  · omega
theorem no_other {W : Int} {x : Nat} (h2 : W ≠ 2) (h4 : W ≠ 4) (h8 : W ≠ 8) (z : Nat) : ¬ Wd W x z := by
  rintro (⟨a, _⟩ | ⟨a, _⟩ | ⟨a, _⟩) <;> omega
theorem float_Widen_all (x : Nat) (hx : x < 2 ^ 64) (W : Int) (w : World) :
    Calls Try.prog 33 #[.int .u64 x, .int .i64 W] w fun e w' => WPost W x e ∧ Below w.heap.size w w' := by
  by_cases h2 : W = 2
  · subst h2
    by_cases h : x < 2 ^ (1 + 5 + 10)
    · exact (float_Widen_half x h w).mono fun e w' ⟨z, a, b, c⟩ => ⟨Or.inl ⟨z, a, Or.inl ⟨rfl, b⟩⟩, c⟩
    · exact (float_Widen_half_not x hx (by omega) w).mono fun e w' ⟨a, b⟩ => ⟨Or.inr ⟨a, no_half (by omega)⟩, b⟩
  by_cases h4 : W = 4
  · subst h4
    by_cases h : x < 2 ^ (1 + 8 + 23)
    · exact (float_Widen_single x h w).mono fun e w' ⟨z, a, b, c⟩ => ⟨Or.inl ⟨z, a, Or.inr (Or.inl ⟨rfl, b⟩)⟩, c⟩
    · exact (float_Widen_single_not x hx (by omega) w).mono fun e w' ⟨a, b⟩ => ⟨Or.inr ⟨a, no_single (by omega)⟩, b⟩
  by_cases h8 : W = 8
  · subst h8
    exact (float_Widen_double x hx w).mono fun e w' ⟨z, a, b, c⟩ => ⟨Or.inl ⟨z, a, Or.inr (Or.inr ⟨rfl, b⟩)⟩, c⟩
  · exact (float_Widen_other x W h2 h4 h8 w).mono fun e w' ⟨a, b⟩ => ⟨Or.inr ⟨a, no_other h2 h4 h8⟩, b⟩
theorem ref_Widen_all (x : Nat) (hx : x < 2 ^ 64) (W : Int) (w : World) :
    Calls Try.prog 28 #[.int .u64 x, .int .i64 W] w fun e w' => WPost W x e ∧ Below w.heap.size w w' := by
  by_cases h2 : W = 2
  · subst h2
    by_cases h : x < 2 ^ (1 + 5 + 10)
    · exact (ref_Widen_half x h w).mono fun e w' ⟨⟨z, a, b⟩, c⟩ => ⟨Or.inl ⟨z, a, Or.inl ⟨rfl, b⟩⟩, c⟩
    · exact (ref_Widen_half_not x (by omega) w).mono fun e w' ⟨a, b⟩ => ⟨Or.inr ⟨a, no_half (by omega)⟩, b⟩
  by_cases h4 : W = 4
  · subst h4
    by_cases h : x < 2 ^ (1 + 8 + 23)
    · exact (ref_Widen_single x h w).mono fun e w' ⟨⟨z, a, b⟩, c⟩ => ⟨Or.inl ⟨z, a, Or.inr (Or.inl ⟨rfl, b⟩)⟩, c⟩
    · exact (ref_Widen_single_not x (by omega) w).mono fun e w' ⟨a, b⟩ => ⟨Or.inr ⟨a, no_single (by omega)⟩, b⟩
  by_cases h8 : W = 8
  · subst h8
    exact (ref_Widen_double x hx w).mono fun e w' ⟨⟨z, a, b⟩, c⟩ => ⟨Or.inl ⟨z, a, Or.inr (Or.inr ⟨rfl, b⟩)⟩, c⟩
  · exact (ref_Widen_other x W h2 h4 h8 w).mono fun e w' ⟨a, b⟩ => ⟨Or.inr ⟨a, no_other h2 h4 h8⟩, b⟩

def IsShort (W : Int) (x : Nat) : Prop := ∃ z v : Nat, Wd W x z ∧ Shortest z x v ∧ (v : Int) = W
def BPost (P : Prop) (e : Ending) : Prop := ∃ b : Bool, e = .returned (.bool b) ∧ (b = true ↔ P)
theorem b_yes {P : Prop} (h : P) : BPost P (.returned (.bool true)) := ⟨true, rfl, by simp [h]⟩
theorem b_no {P : Prop} (h : ¬ P) : BPost P (.returned (.bool false)) := ⟨false, rfl, by simp [h]⟩
set_option maxHeartbeats 1000000 in
theorem float_Short (x : Nat) (hx : x < 2 ^ 64) (W : Int) (w : World) :
    Calls Try.prog 36 #[.int .u64 x, .int .i64 W] w fun e w' => BPost (IsShort W x) e ∧ Below w.heap.size w w' := by
  have HW := Lib.hid (float_Widen_all x hx W)
  generalize hxl : (x : Int) = xl at *
  have HX := Lib.hid (fun _ : Unit => hxl)
  clear hx hxl
  go_enter Try.func36, Try.ntmps36
  go_wp2_with fail
  refine (HW.out _).mono ?_
  rintro e w1 ⟨⟨z, rfl, hz⟩ | ⟨rfl, hz⟩, S1⟩
  · have HS := Lib.hid (float_Shortest z (wd_lt hz))
    have HZ := Lib.hid (fun _ : Unit => hz)
    have HS1 := Lib.hid S1
    clear hz S1
    generalize (z : Int) = zl at *
    go_wp2_with fail
    refine (HS.out _).mono ?_
    rintro e w2 ⟨⟨y, v, rfl, hs⟩, S2⟩
    have HS2 := Lib.hid (HS1.out.trans (S2.mono HS1.out.size))
    clear S2
    by_cases hyx : y = x
    · have e1 : (y : Int) = xl := by rw [hyx]; exact HX.out ()
      rw [e1]
      by_cases hvw : (v : Int) = W
      · have HR := Lib.hid (show IsShort W x from ⟨z, v, HZ.out (), hyx ▸ hs, hvw⟩)
        rw [hvw]
        clear hs hyx e1 hvw
        go_wp2_with fail
        refine bodyPost_ret (results_tmp rfl _ _ _) rfl ?_
        exact ⟨b_yes HR.out, HS2.out⟩
      · have HR : Hid (¬ IsShort W x) := Lib.hid (by
          rintro ⟨z', v', a, b, c⟩
          have := wd_fun a (HZ.out ())
          subst this
          have := shortest_fun b hs
          omega)
        have hvf : ((v : Int) == W) = false := by simp [hvw]
        clear hs hyx e1 hvw
        generalize (v : Int) = vl at *
        go_wp2_with fail
        refine bodyPost_ret (results_tmp rfl _ _ _) rfl ?_
        exact ⟨b_no HR.out, HS2.out⟩
    · have HR : Hid (¬ IsShort W x) := Lib.hid (by
        rintro ⟨z', v', a, b, c⟩
        have := wd_fun a (HZ.out ())
        subst this
        exact hyx (shortest_fun hs b).1)
      have hyf : ((y : Int) == xl) = false := by
        have := HX.out ()
        simp
        omega
      clear hs hyx
      generalize (v : Int) = vl at *
      generalize (y : Int) = yl at *
      go_wp2_with fail
      refine bodyPost_ret (results_tmp rfl _ _ _) rfl ?_
      exact ⟨b_no HR.out, HS2.out⟩
  · have HR : Hid (¬ IsShort W x) := Lib.hid (by
      rintro ⟨z', v', a, b, c⟩
      exact hz z' a)
    clear hz
    go_wp2_with fail
    refine bodyPost_ret (results_tmp rfl _ _ _) rfl ?_
    exact ⟨b_no HR.out, S1⟩
set_option maxHeartbeats 1000000 in
theorem ref_Short (x : Nat) (hx : x < 2 ^ 64) (W : Int) (w : World) :
    Calls Try.prog 19 #[.int .u64 x, .int .i64 W] w fun e w' => BPost (IsShort W x) e ∧ Below w.heap.size w w' := by
  have HW := Lib.hid (ref_Widen_all x hx W)
  generalize hxl : (x : Int) = xl at *
  have HX := Lib.hid (fun _ : Unit => hxl)
  clear hx hxl
  go_enter Try.func19, Try.ntmps19
  go_wp2_with fail
  refine (HW.out _).mono ?_
  rintro e w1 ⟨⟨z, rfl, hz⟩ | ⟨rfl, hz⟩, S1⟩
  · have HS := Lib.hid (ref_Shortest z (wd_lt hz))
    have HZ := Lib.hid (fun _ : Unit => hz)
    have HS1 := Lib.hid S1
    clear hz S1
    generalize (z : Int) = zl at *
    go_wp2_with fail
    refine (HS.out _).mono ?_
    rintro e w2 ⟨⟨y, v, rfl, hs⟩, S2⟩
    have HS2 := Lib.hid (HS1.out.trans (S2.mono HS1.out.size))
    clear S2
    by_cases hyx : y = x
    · have e1 : (y : Int) = xl := by rw [hyx]; exact HX.out ()
      rw [e1]
      by_cases hvw : (v : Int) = W
      · have HR := Lib.hid (show IsShort W x from ⟨z, v, HZ.out (), hyx ▸ hs, hvw⟩)
        rw [hvw]
        clear hs hyx e1 hvw
        go_wp2_with fail
        refine bodyPost_ret (results_tmp rfl _ _ _) rfl ?_
        exact ⟨b_yes HR.out, HS2.out⟩
      · have HR : Hid (¬ IsShort W x) := Lib.hid (by
          rintro ⟨z', v', a, b, c⟩
          have := wd_fun a (HZ.out ())
          subst this
          have := shortest_fun b hs
          omega)
        have hvf : ((v : Int) == W) = false := by simp [hvw]
        clear hs hyx e1 hvw
        generalize (v : Int) = vl at *
        go_wp2_with fail
        refine bodyPost_ret (results_tmp rfl _ _ _) rfl ?_
        exact ⟨b_no HR.out, HS2.out⟩
    · have HR : Hid (¬ IsShort W x) := Lib.hid (by
        rintro ⟨z', v', a, b, c⟩
        have := wd_fun a (HZ.out ())
        subst this
        exact hyx (shortest_fun hs b).1)
      have hyf : ((y : Int) == xl) = false := by
        have := HX.out ()
        simp
        omega
      clear hs hyx
      generalize (v : Int) = vl at *
      generalize (y : Int) = yl at *
      go_wp2_with fail
      refine bodyPost_ret (results_tmp rfl _ _ _) rfl ?_
      exact ⟨b_no HR.out, HS2.out⟩
  · have HR : Hid (¬ IsShort W x) := Lib.hid (by
      rintro ⟨z', v', a, b, c⟩
      exact hz z' a)
    clear hz
    go_wp2_with fail
    refine bodyPost_ret (results_tmp rfl _ _ _) rfl ?_
    exact ⟨b_no HR.out, S1⟩
end Go.Proofs.Ytimmgajeflghlaa
