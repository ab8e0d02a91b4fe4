
/-
  PROVED: the law FloatWidens returns true for every input, and leaves its arguments as they were (Rows.FloatWidensSaid). Conditions: none beside the row's own.
-/
import Derived.Test.YtfkgclldjkanaaaFloatL
import Derived.Test.YtfkgclldjkanaaaLaw
import Derived.WalkKit
import Derived.ProofKit
import Derived.OpenShut
namespace Go.Proofs.Ytfkgclldjkanaaa.floatWidens
open Go.ChangeShapes Go.WideShapes Go.ChangeAt Go.RowKit
set_option maxHeartbeats 1000000 in
theorem walk (w : World) (a0 : Int) (b0 : 0 ≤ a0 ∧ a0 ≤ 18446744073709551615) (a1 : Int) (b1 : -9223372036854775808 ≤ a1 ∧ a1 ≤ 9223372036854775807) :
    Calls Try.prog 4 #[.int .u64 a0, .int .i64 a1] w fun e w' => e = .returned (.bool true) ∧ Below w.heap.size w w' := by
  obtain ⟨x, rfl⟩ := Int.eq_ofNat_of_zero_le b0.1
  have hx : x < 2 ^ 64 := by omega
  have HA := Lib.hid (float_awake)
  have HW := Lib.hid (float_Widen_all x hx a1)
  have HR := Lib.hid (ref_Widen_all x hx a1)
  have HS := Lib.hid (float_Short x hx a1)
  have HT := Lib.hid (ref_Short x hx a1)
  clear hx b0 b1
  generalize (x : Int) = xl at *
  go_enter Try.func4, Try.ntmps4
  go_wp2_with fail
  refine (HA.out _).mono ?_
  rintro e w1 ⟨rfl, S1⟩
  go_wp2_with fail
  refine (HW.out _).mono ?_
  rintro e w2 ⟨hz, S2⟩
  have S := Lib.hid (S1.trans (S2.mono S1.size))
  clear S1 S2
  have key : ∃ (yl : Int) (ok : Bool), e = .returned (.tuple #[.int .u64 yl, .bool ok]) ∧ ∀ e', WPost a1 x e' → e' = .returned (.tuple #[.int .u64 yl, .bool ok]) := by
    rcases hz with ⟨z, rfl, hz⟩ | ⟨rfl, hz⟩
    · refine ⟨z, true, rfl, ?_⟩
      rintro e' (⟨z', rfl, hz'⟩ | ⟨rfl, hz'⟩)
      · rw [wd_fun hz hz']
      · exact absurd hz (hz' _)
    · refine ⟨0, false, rfl, ?_⟩
      rintro e' (⟨z', rfl, hz'⟩ | ⟨rfl, hz'⟩)
      · exact absurd hz' (hz _)
      · rfl
  clear hz
  obtain ⟨yl, ok, rfl, hk⟩ := key
  have HK := Lib.hid hk
  clear hk
  go_wp2_with fail
  refine (HR.out _).mono ?_
  rintro e w3 ⟨he, S3⟩
  have := HK.out e he
  subst this
  have S := Lib.hid (S.out.trans (S3.mono S.out.size))
  clear he S3
  cases ok <;>
  · go_wp2_with fail
    refine (HS.out _).mono ?_
    rintro e w4 ⟨⟨b, rfl, hb⟩, S4⟩
    have S := Lib.hid (S.out.trans (S4.mono S.out.size))
    have HB := Lib.hid hb
    clear S4 hb
    go_wp2_with fail
    refine (HT.out _).mono ?_
    rintro e w5 ⟨⟨b', rfl, hb'⟩, S5⟩
    have hbb : b' = b := by
      have h1 := HB.out
      cases b <;> cases b' <;> simp_all
    subst hbb
    have S := Lib.hid (S.out.trans (S5.mono S.out.size))
    clear S5 hb'
    cases b' <;>
    · go_wp2_with fail
      refine bodyPost_ret (results_tmp rfl _ _ _) rfl ?_
      exact ⟨rfl, S.out⟩

theorem own : ownKnob Try.prog.godebug = none := by kernel_rfl
theorem laidOut : laidOutB Try.prog = true := by kernel_rfl
set_option maxRecDepth 100000 in
theorem lifted (os : Os) (started : os.Started) (H : Type) (enc : TypeId × Value → H) :
    ReturnsInHanded {} Try.checked os 4 .any (Rows.floatWidensSpec.pre6 enc Try.prog Try.f4 Rows.floatWidensRow.domain false) (Rows.floatWidensSpec.post enc Try.prog Try.f4 false true false false) := by
  refine returnsInHanded_of_change (C := Try.checked) own started (by kernel_rfl) Try.func4
    (ChangeSpec.witness6 (enc := enc) (C := Try.checked) false ⟨#[], #[.int .u64 0, .int .i64 0], []⟩ 8 (by kernel_rfl) (by kernel_rfl) (by kernel_rfl) (by kernel_rfl)) ?_
  intro W base args ds gs before hval0 hW _ _
  have hval : ∀ (j : Nat) t v, Try.f4.params[j]? = some t → args[j]? = some v → Value.okWide Try.prog W .any base t v := hval0
  have hlt := hW.lt
  have hW' := hW
  obtain ⟨p, q, hA0, hV, hpq, _, _⟩ := hW
  have hA : DataW.TrodAll enc Try.prog W 0 (fun _ => true) true Try.f4.params.toList args.toList ds p := hA0
  rw [Try.params4] at hA hval
  obtain ⟨v0, vs0, d0, ds0, p0, q0, hargs, rfl, rfl, h0, r0⟩ := trodAll_cons hA
  obtain ⟨v1, vs1, d1, ds1, p1, q1, rfl, rfl, rfl, h1, r1⟩ := trodAll_cons r0
  obtain ⟨rfl, rfl, rfl⟩ := trodAll_nil r1
  obtain rfl : args = #[v0, v1] := by cases args; simp_all
  obtain ⟨rfl, rfl⟩ := trodVars_none hV
  obtain ⟨a0, rfl, rfl, rfl, w0⟩ := open_int Try.underlying22 (hval 0 22 v0 rfl rfl) h0
  have b0 : 0 ≤ a0 ∧ a0 ≤ 18446744073709551615 := by simpa [Lit.wf, IntKind.min, IntKind.max, IntKind.bits, IntKind.signed] using w0
  obtain ⟨a1, rfl, rfl, rfl, w1⟩ := open_int Try.underlying3 (hval 1 3 v1 rfl rfl) h1
  have b1 : -9223372036854775808 ≤ a1 ∧ a1 ≤ 9223372036854775807 := by simpa [Lit.wf, IntKind.min, IntKind.max, IntKind.bits, IntKind.signed] using w1
  refine (walk W a0 b0 a1 b1).mono fun e W' ⟨he, hbl⟩ => ?_
  subst he
  exact ⟨_, rfl, law_post laidOut (by kernel_rfl) rfl (by kernel_rfl) Try.underlying4 rfl rfl rfl hW' hbl⟩

theorem over : Rows.floatWidensRow.holds Try.pinned (OpenSpec.ofChange Rows.floatWidensSpec) :=
  OpenClaim.holds_of_wide 4 Try.f4 rfl rfl rfl rfl rfl rfl rfl ⟨rfl, rfl, rfl, rfl, rfl⟩ rfl rfl rfl rfl rfl (by kernel_rfl) Try.func4 (by kernel_rfl)
    (of_decide_eq_true (by kernel_rfl)) (by unfold Func.isWrapper; first | (rw [if_pos (by decide +kernel)]; kernel_rfl) | (rw [if_neg (by decide +kernel)]; exact ⟨rfl, rfl⟩))
    (fun os started H enc _ => lifted os started H enc)

/-- The statement. -/
theorem proved : Rows.FloatWidensSaid := over
#print axioms proved
end Go.Proofs.Ytfkgclldjkanaaa.floatWidens
