
/-
  PROVED: the law UtfJoins returns true for every two strings, and leaves its arguments as they were (Rows.UtfJoinsSaid). Conditions: none beside the row's own.
-/
import Derived.Test.YtmbnenoajpckjaaUtfV
import Derived.Test.YtmbnenoajpckjaaLaw
import Derived.WalkKit
import Derived.ProofKit
import Derived.OpenShut
namespace Go.Proofs.Ytmbnenoajpckjaa.utfJoins
open Go.ChangeShapes Go.WideShapes Go.ChangeAt Go.RowKit
open Go.ChangeMaps (open_string shut_string)

set_option maxHeartbeats 1000000 in
theorem walk (w : World) (a b : ByteArray) : Calls Try.prog 4 #[.string a, .string b] w fun e w' => e = .returned (.bool true) ∧ Below w.heap.size w w' := by
  have HA := Lib.hid (utf_awake w)
  go_enter Try.func4, Try.ntmps4
  go_wp2_with fail
  refine HA.out.mono ?_
  rintro e w1 ⟨rfl, S⟩
  clear HA
  by_cases ha : 500 < a.size
  · go_wp2_with fail
    go_ret
    exact ⟨rfl, S⟩
  by_cases hb : 500 < b.size
  · go_wp2_with fail
    go_ret
    exact ⟨rfl, S⟩
  have ta : decide ((500 : Int) < (a.size : Int)) = false := decide_eq_false (by omega)
  have tb : decide ((500 : Int) < (b.size : Int)) = false := decide_eq_false (by omega)
  have VA := Lib.hid (utf_valid a (by omega))
  have VB := Lib.hid (utf_valid b (by omega))
  have VC := Lib.hid (utf_valid (a ++ b) (by simp; omega))
  have FA := Lib.hid (utf_first a (by omega))
  have FC := Lib.hid (utf_first (a ++ b) (by simp; omega))
  rw [sbytes_append] at VC FC
  cases hva : uok uq0 (sbytes a) with
  | true =>
    rw [uok_append _ _ hva] at VC
    rw [hva] at VA
    rw [uat_ok _ hva] at FA
    generalize uok uq0 (sbytes b) = vb at *
    cases vb
    all_goals (
      go_wp2_with (first
      | (go_at_call 8; ((with_reducible refine (VA.out _).mono ?_)); rintro e w' ⟨rfl, hx⟩; have S := S.trans (hx.mono S.size); clear hx)
      | (go_at_call 8; ((with_reducible refine (VB.out _).mono ?_)); rintro e w' ⟨rfl, hx⟩; have S := S.trans (hx.mono S.size); clear hx)
      | (go_at_call 8; ((with_reducible refine (VC.out _).mono ?_)); rintro e w' ⟨rfl, hx⟩; have S := S.trans (hx.mono S.size); clear hx)
      | (go_at_call 7; ((with_reducible refine (FA.out _).mono ?_)); rintro e w' ⟨rfl, hx⟩; have S := S.trans (hx.mono S.size); clear hx)
      | (go_at_call 7; ((with_reducible refine (FC.out _).mono ?_)); rintro e w' ⟨rfl, hx⟩; have S := S.trans (hx.mono S.size); clear hx)
      | (go_at_call 11; ((with_reducible refine (utf_reset_nil _).mono ?_)); rintro e w' ⟨rfl, rfl⟩)
      | (go_at_call 10; ((with_reducible refine (utf_step_nil _ _).mono ?_)); rintro e w' ⟨rfl, rfl⟩)
      | (go_at_call 9; ((with_reducible refine (utf_done_nil _).mono ?_)); rintro e w' ⟨rfl, rfl⟩))
      go_ret
      exact ⟨rfl, S⟩)
  | false =>
    rw [hva] at VA
    rcases uat_or (sbytes a) with h1 | ⟨k, h1⟩
    · rw [h1] at FA
      generalize uok uq0 (sbytes b) = vb at *
      generalize uok uq0 (sbytes a ++ sbytes b) = vc at *
      go_wp2_with (first
      | (go_at_call 8; ((with_reducible refine (VA.out _).mono ?_)); rintro e w' ⟨rfl, hx⟩; have S := S.trans (hx.mono S.size); clear hx)
      | (go_at_call 8; ((with_reducible refine (VB.out _).mono ?_)); rintro e w' ⟨rfl, hx⟩; have S := S.trans (hx.mono S.size); clear hx)
      | (go_at_call 8; ((with_reducible refine (VC.out _).mono ?_)); rintro e w' ⟨rfl, hx⟩; have S := S.trans (hx.mono S.size); clear hx)
      | (go_at_call 7; ((with_reducible refine (FA.out _).mono ?_)); rintro e w' ⟨rfl, hx⟩; have S := S.trans (hx.mono S.size); clear hx)
      | (go_at_call 7; ((with_reducible refine (FC.out _).mono ?_)); rintro e w' ⟨rfl, hx⟩; have S := S.trans (hx.mono S.size); clear hx)
      | (go_at_call 11; ((with_reducible refine (utf_reset_nil _).mono ?_)); rintro e w' ⟨rfl, rfl⟩)
      | (go_at_call 10; ((with_reducible refine (utf_step_nil _ _).mono ?_)); rintro e w' ⟨rfl, rfl⟩)
      | (go_at_call 9; ((with_reducible refine (utf_done_nil _).mono ?_)); rintro e w' ⟨rfl, rfl⟩))
      go_ret
      exact ⟨rfl, S⟩
    · obtain ⟨h2, h3⟩ := uat_append (sbytes a) (sbytes b) (by omega)
      rw [h1] at h3 FA
      rw [h2] at VC
      rw [h3] at FC
      clear h1 h2 h3
      generalize uok uq0 (sbytes b) = vb at *
      go_wp2_with (first
      | (go_at_call 8; ((with_reducible refine (VA.out _).mono ?_)); rintro e w' ⟨rfl, hx⟩; have S := S.trans (hx.mono S.size); clear hx)
      | (go_at_call 8; ((with_reducible refine (VB.out _).mono ?_)); rintro e w' ⟨rfl, hx⟩; have S := S.trans (hx.mono S.size); clear hx)
      | (go_at_call 8; ((with_reducible refine (VC.out _).mono ?_)); rintro e w' ⟨rfl, hx⟩; have S := S.trans (hx.mono S.size); clear hx)
      | (go_at_call 7; ((with_reducible refine (FA.out _).mono ?_)); rintro e w' ⟨rfl, hx⟩; have S := S.trans (hx.mono S.size); clear hx)
      | (go_at_call 7; ((with_reducible refine (FC.out _).mono ?_)); rintro e w' ⟨rfl, hx⟩; have S := S.trans (hx.mono S.size); clear hx)
      | (go_at_call 11; ((with_reducible refine (utf_reset_nil _).mono ?_)); rintro e w' ⟨rfl, rfl⟩)
      | (go_at_call 10; ((with_reducible refine (utf_step_nil _ _).mono ?_)); rintro e w' ⟨rfl, rfl⟩)
      | (go_at_call 9; ((with_reducible refine (utf_done_nil _).mono ?_)); rintro e w' ⟨rfl, rfl⟩))
      go_ret
      exact ⟨rfl, S⟩

theorem own : ownKnob Try.prog.godebug = none := by kernel_rfl
theorem laidOut : laidOutB Try.prog = true := by kernel_rfl
set_option maxRecDepth 100000 in
theorem lifted (os : Os) (started : os.Started) (H : Type) (enc : TypeId × Value → H) :
    ReturnsInHanded {} Try.checked os 4 .any (Rows.utfJoinsSpec.pre6 enc Try.prog Try.f4 Rows.utfJoinsRow.domain false) (Rows.utfJoinsSpec.post enc Try.prog Try.f4 false true false false) := by
  refine returnsInHanded_of_change (C := Try.checked) own started (by kernel_rfl) Try.func4
    (ChangeSpec.witness6 (enc := enc) (C := Try.checked) false ⟨#[], #[.string ⟨#[]⟩, .string ⟨#[]⟩], []⟩ 8 (by kernel_rfl) (by kernel_rfl) (by kernel_rfl) (by kernel_rfl)) ?_
  intro W base args ds gs before hval0 hW hcnd _
  have hval : ∀ (j : Nat) t v, Try.f4.params[j]? = some t → args[j]? = some v → Value.okWide Try.prog W .any base t v := hval0
  have hW' := hW
  obtain ⟨p, q, hA0, hV, rfl, hfz, hnd⟩ := hW
  have hA : DataW.TrodAll enc Try.prog W 0 (fun _ => true) true Try.f4.params.toList args.toList ds p := hA0
  rw [Try.params4] at hA hval
  obtain ⟨v0, vs0, d0, ds0, p0, q0, hargs, rfl, rfl, h0, r0⟩ := trodAll_cons hA
  obtain ⟨v1, vs1, d1, ds1, p1, q1, rfl, rfl, rfl, h1, r1⟩ := trodAll_cons r0
  obtain ⟨rfl, rfl, rfl⟩ := trodAll_nil r1
  obtain rfl : args = #[v0, v1] := by cases args; simp_all
  obtain ⟨rfl, rfl⟩ := trodVars_none hV
  obtain ⟨a, rfl, rfl, rfl, _⟩ := open_string Try.underlying9 (hval 0 9 v0 rfl rfl) h0
  obtain ⟨b, rfl, rfl, rfl, _⟩ := open_string Try.underlying9 (hval 1 9 v1 rfl rfl) h1
  clear hA0 hval0
  refine (walk W a b).mono fun e W' ⟨he, hg⟩ => ?_
  subst he
  exact ⟨_, rfl, law_post laidOut (by kernel_rfl) rfl (by kernel_rfl) Try.underlying4 rfl rfl rfl hW' hg⟩

theorem over : Rows.utfJoinsRow.holds Try.pinned (OpenSpec.ofChange Rows.utfJoinsSpec) :=
  OpenClaim.holds_of_wide 4 Try.f4 rfl rfl rfl rfl rfl rfl rfl ⟨rfl, rfl, rfl, rfl, rfl⟩ rfl rfl rfl rfl rfl (by kernel_rfl) Try.func4 (by kernel_rfl)
    (of_decide_eq_true (by kernel_rfl)) (by unfold Func.isWrapper; first | (rw [if_pos (by decide +kernel)]; kernel_rfl) | (rw [if_neg (by decide +kernel)]; exact ⟨rfl, rfl⟩))
    (fun os started H enc _ => lifted os started H enc)

theorem proved : Rows.UtfJoinsSaid := over
#print axioms proved
end Go.Proofs.Ytmbnenoajpckjaa.utfJoins
