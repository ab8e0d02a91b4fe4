
/-
  PROVED: the law FloatShortest returns true for every input, and leaves its arguments as they were (Rows.FloatShortestSaid). Conditions: none beside the row's own.
-/
import Derived.Test.YtfkgclldjkanaaaFloatL
import Derived.Test.YtfkgclldjkanaaaLaw
import Derived.WalkKit
import Derived.ProofKit
import Derived.OpenShut
namespace Go.Proofs.Ytfkgclldjkanaaa.floatShortest
open Go.ChangeShapes Go.WideShapes Go.ChangeAt Go.RowKit
set_option maxHeartbeats 1000000 in
theorem walk_nan (x : Nat) (hx : x < 2 ^ 64) (hn : FNan 11 52 x) (w : World) :
    Calls Try.prog 3 #[.int .u64 x] w fun e w' => e = .returned (.bool true) ∧ Below w.heap.size w w' := by
  have HA := Lib.hid (float_awake)
  have HS := Lib.hid (float_Shortest x hx)
  have HR := Lib.hid (ref_Shortest x hx)
  have HN := Lib.hid (float_NaN x hx)
  rw [show decide (FNan 11 52 x) = true by simp [hn]] at HN
  have HH := Lib.hid (fun y v (h : Shortest x y v) => sh_wd h hx)
  rw [if_pos hn] at HH
  have x0 : (0 : Int) ≤ x := by omega
  have x1 : (x : Int) < 18446744073709551616 := by omega
  have A1 : (bits .and .u64 ((x : Int) / 4503599627370496) 2047 == 2047) = decide (fex 11 52 x = 2047) := by
    have e : (x : Int) / 4503599627370496 = ((x / 4503599627370496 : Nat) : Int) := by omega
    rw [e, show (2047 : Int) = ((2047 : Nat) : Int) from rfl, bits_and_u64_nat _ _ (by omega) (by decide), nat_mask11]
    have e2 : x / 4503599627370496 % 2048 = fex 11 52 x := by unfold fex; omega
    rw [e2]
    by_cases h : fex 11 52 x = 2047
    · simp [h]
    · first | (simp [h]; done) | (simp [h]; omega)
  have A2 : (IntKind.u64.wrap ((x : Int) * 4096) != 0) = decide (ffr 52 x ≠ 0) := by
    have e : IntKind.u64.wrap ((x : Int) * 4096) = ((ffr 52 x * 4096 : Nat) : Int) := by rw [IntKind.wrap_u64]; unfold ffr; omega
    rw [e]
    by_cases h : ffr 52 x = 0
    · simp [h]
    · first | (simp [h]; done) | (simp [h]; omega)
  rw [decide_eq_true hn.1] at A1
  rw [decide_eq_true hn.2] at A2
  generalize hxl : (x : Int) = xl at *
  have HX := Lib.hid (fun _ : Unit => hxl)
  clear hxl hn hx
  go_enter Try.func3, Try.ntmps3
  go_wp2_with fail
  refine (HA.out _).mono ?_
  rintro e w1 ⟨rfl, S1⟩
  have S := Lib.hid S1
  clear S1
  go_wp2_with fail
  refine (HS.out _).mono ?_
  rintro e w2 ⟨⟨y, v, rfl, hs⟩, S2⟩
  obtain ⟨hy, hd, hsh⟩ := HH.out y v hs
  have HW := Lib.hid (float_Widen_all y hy v)
  have HT := Lib.hid (float_Short y hy v)
  have HSH := Lib.hid hsh
  have HD := Lib.hid hd
  have HSS := Lib.hid hs
  have S := Lib.hid (S.out.trans (S2.mono S.out.size))
  clear hs hy hd hsh S2
  generalize hyl : (y : Int) = yl at *
  have HY := Lib.hid (fun _ : Unit => hyl)
  generalize hvl : (v : Int) = vl at *
  have HV := Lib.hid (fun _ : Unit => hvl)
  clear hyl hvl
  go_wp2_with fail
  refine (HR.out _).mono ?_
  rintro e w3 ⟨⟨z, u, rfl, hs⟩, S3⟩
  obtain ⟨rfl, rfl⟩ := shortest_fun HSS.out hs
  rw [HY.out (), HV.out ()]
  have S := Lib.hid (S.out.trans (S3.mono S.out.size))
  clear hs S3
  go_wp2_with fail
  refine (HW.out _).mono ?_
  rintro e w4 ⟨⟨z, rfl, hz⟩ | ⟨rfl, hz⟩, S4⟩
  case inr => exact absurd HD.out (hz _)
  have hzz := wd_fun hz HD.out
  subst hzz
  have S := Lib.hid (S.out.trans (S4.mono S.out.size))
  clear hz S4
  rw [show ((9221120237041090560 : Nat) : Int) = 9221120237041090560 from rfl]
  go_wp2_with fail
  refine (HN.out _).mono ?_
  rintro e w5 ⟨rfl, S5⟩
  have S := Lib.hid (S.out.trans (S5.mono S.out.size))
  clear S5
  go_wp2_with fail
  refine (HT.out _).mono ?_
  rintro e w6 ⟨⟨b, rfl, hb⟩, S6⟩
  have hbt : b = true := hb.2 HSH.out
  subst hbt
  have S := Lib.hid (S.out.trans (S6.mono S.out.size))
  clear hb S6
  go_wp2_with fail
  refine bodyPost_ret (results_tmp rfl _ _ _) rfl ?_
  exact ⟨rfl, S.out⟩
set_option maxHeartbeats 1000000 in
theorem walk_num (x : Nat) (hx : x < 2 ^ 64) (hn : ¬ FNan 11 52 x) (w : World) :
    Calls Try.prog 3 #[.int .u64 x] w fun e w' => e = .returned (.bool true) ∧ Below w.heap.size w w' := by
  have HA := Lib.hid (float_awake)
  have HS := Lib.hid (float_Shortest x hx)
  have HR := Lib.hid (ref_Shortest x hx)
  have HN := Lib.hid (float_NaN x hx)
  rw [show decide (FNan 11 52 x) = false by simp [hn]] at HN
  have HH := Lib.hid (fun y v (h : Shortest x y v) => sh_wd h hx)
  rw [if_neg hn] at HH
  have x0 : (0 : Int) ≤ x := by omega
  have x1 : (x : Int) < 18446744073709551616 := by omega
  have A1 : (bits .and .u64 ((x : Int) / 4503599627370496) 2047 == 2047) = decide (fex 11 52 x = 2047) := by
    have e : (x : Int) / 4503599627370496 = ((x / 4503599627370496 : Nat) : Int) := by omega
    rw [e, show (2047 : Int) = ((2047 : Nat) : Int) from rfl, bits_and_u64_nat _ _ (by omega) (by decide), nat_mask11]
    have e2 : x / 4503599627370496 % 2048 = fex 11 52 x := by unfold fex; omega
    rw [e2]
    by_cases h : fex 11 52 x = 2047
    · simp [h]
    · first | (simp [h]; done) | (simp [h]; omega)
  have A2 : (IntKind.u64.wrap ((x : Int) * 4096) != 0) = decide (ffr 52 x ≠ 0) := by
    have e : IntKind.u64.wrap ((x : Int) * 4096) = ((ffr 52 x * 4096 : Nat) : Int) := by rw [IntKind.wrap_u64]; unfold ffr; omega
    rw [e]
    by_cases h : ffr 52 x = 0
    · simp [h]
    · first | (simp [h]; done) | (simp [h]; omega)
  by_cases he : fex 11 52 x = 2047
  · rw [decide_eq_true he] at A1
    rw [decide_eq_false (show ¬ ffr 52 x ≠ 0 from fun h => hn ⟨he, h⟩)] at A2
    generalize hxl : (x : Int) = xl at *
    have HX := Lib.hid (fun _ : Unit => hxl)
    clear hxl hn hx
    go_enter Try.func3, Try.ntmps3
    go_wp2_with fail
    refine (HA.out _).mono ?_
    rintro e w1 ⟨rfl, S1⟩
    have S := Lib.hid S1
    clear S1
    go_wp2_with fail
    refine (HS.out _).mono ?_
    rintro e w2 ⟨⟨y, v, rfl, hs⟩, S2⟩
    obtain ⟨hy, hd, hsh⟩ := HH.out y v hs
    have HW := Lib.hid (float_Widen_all y hy v)
    have HT := Lib.hid (float_Short y hy v)
    have HSH := Lib.hid hsh
    have HD := Lib.hid hd
    have HSS := Lib.hid hs
    have S := Lib.hid (S.out.trans (S2.mono S.out.size))
    clear hs hy hd hsh S2
    generalize hyl : (y : Int) = yl at *
    have HY := Lib.hid (fun _ : Unit => hyl)
    generalize hvl : (v : Int) = vl at *
    have HV := Lib.hid (fun _ : Unit => hvl)
    clear hyl hvl
    go_wp2_with fail
    refine (HR.out _).mono ?_
    rintro e w3 ⟨⟨z, u, rfl, hs⟩, S3⟩
    obtain ⟨rfl, rfl⟩ := shortest_fun HSS.out hs
    rw [HY.out (), HV.out ()]
    have S := Lib.hid (S.out.trans (S3.mono S.out.size))
    clear hs S3
    go_wp2_with fail
    refine (HW.out _).mono ?_
    rintro e w4 ⟨⟨z, rfl, hz⟩ | ⟨rfl, hz⟩, S4⟩
    case inr => exact absurd HD.out (hz _)
    have hzz := wd_fun hz HD.out
    subst hzz
    have S := Lib.hid (S.out.trans (S4.mono S.out.size))
    clear hz S4
    rw [HX.out ()]
    go_wp2_with fail
    refine (HN.out _).mono ?_
    rintro e w5 ⟨rfl, S5⟩
    have S := Lib.hid (S.out.trans (S5.mono S.out.size))
    clear S5
    go_wp2_with fail
    refine (HT.out _).mono ?_
    rintro e w6 ⟨⟨b, rfl, hb⟩, S6⟩
    have hbt : b = true := hb.2 HSH.out
    subst hbt
    have S := Lib.hid (S.out.trans (S6.mono S.out.size))
    clear hb S6
    go_wp2_with fail
    refine bodyPost_ret (results_tmp rfl _ _ _) rfl ?_
    exact ⟨rfl, S.out⟩
  · rw [decide_eq_false he] at A1
    clear A2
    generalize hxl : (x : Int) = xl at *
    have HX := Lib.hid (fun _ : Unit => hxl)
    clear hxl hn hx
    go_enter Try.func3, Try.ntmps3
    go_wp2_with fail
    refine (HA.out _).mono ?_
    rintro e w1 ⟨rfl, S1⟩
    have S := Lib.hid S1
    clear S1
    go_wp2_with fail
    refine (HS.out _).mono ?_
    rintro e w2 ⟨⟨y, v, rfl, hs⟩, S2⟩
    obtain ⟨hy, hd, hsh⟩ := HH.out y v hs
    have HW := Lib.hid (float_Widen_all y hy v)
    have HT := Lib.hid (float_Short y hy v)
    have HSH := Lib.hid hsh
    have HD := Lib.hid hd
    have HSS := Lib.hid hs
    have S := Lib.hid (S.out.trans (S2.mono S.out.size))
    clear hs hy hd hsh S2
    generalize hyl : (y : Int) = yl at *
    have HY := Lib.hid (fun _ : Unit => hyl)
    generalize hvl : (v : Int) = vl at *
    have HV := Lib.hid (fun _ : Unit => hvl)
    clear hyl hvl
    go_wp2_with fail
    refine (HR.out _).mono ?_
    rintro e w3 ⟨⟨z, u, rfl, hs⟩, S3⟩
    obtain ⟨rfl, rfl⟩ := shortest_fun HSS.out hs
    rw [HY.out (), HV.out ()]
    have S := Lib.hid (S.out.trans (S3.mono S.out.size))
    clear hs S3
    go_wp2_with fail
    refine (HW.out _).mono ?_
    rintro e w4 ⟨⟨z, rfl, hz⟩ | ⟨rfl, hz⟩, S4⟩
    case inr => exact absurd HD.out (hz _)
    have hzz := wd_fun hz HD.out
    subst hzz
    have S := Lib.hid (S.out.trans (S4.mono S.out.size))
    clear hz S4
    rw [HX.out ()]
    go_wp2_with fail
    refine (HN.out _).mono ?_
    rintro e w5 ⟨rfl, S5⟩
    have S := Lib.hid (S.out.trans (S5.mono S.out.size))
    clear S5
    go_wp2_with fail
    refine (HT.out _).mono ?_
    rintro e w6 ⟨⟨b, rfl, hb⟩, S6⟩
    have hbt : b = true := hb.2 HSH.out
    subst hbt
    have S := Lib.hid (S.out.trans (S6.mono S.out.size))
    clear hb S6
    go_wp2_with fail
    refine bodyPost_ret (results_tmp rfl _ _ _) rfl ?_
    exact ⟨rfl, S.out⟩
theorem walk (w : World) (a0 : Int) (b0 : 0 ≤ a0 ∧ a0 ≤ 18446744073709551615) :
    Calls Try.prog 3 #[.int .u64 a0] w fun e w' => e = .returned (.bool true) ∧ Below w.heap.size w w' := by
  obtain ⟨x, rfl⟩ := Int.eq_ofNat_of_zero_le b0.1
  by_cases hn : FNan 11 52 x
  · exact walk_nan x (by omega) hn w
  · exact walk_num x (by omega) hn w

theorem own : ownKnob Try.prog.godebug = none := by kernel_rfl
theorem laidOut : laidOutB Try.prog = true := by kernel_rfl
set_option maxRecDepth 100000 in
theorem lifted (os : Os) (started : os.Started) (H : Type) (enc : TypeId × Value → H) :
    ReturnsInHanded {} Try.checked os 3 .any (Rows.floatShortestSpec.pre6 enc Try.prog Try.f3 Rows.floatShortestRow.domain false) (Rows.floatShortestSpec.post enc Try.prog Try.f3 false true false false) := by
  refine returnsInHanded_of_change (C := Try.checked) own started (by kernel_rfl) Try.func3
    (ChangeSpec.witness6 (enc := enc) (C := Try.checked) false ⟨#[], #[.int .u64 0], []⟩ 8 (by kernel_rfl) (by kernel_rfl) (by kernel_rfl) (by kernel_rfl)) ?_
  intro W base args ds gs before hval0 hW _ _
  have hval : ∀ (j : Nat) t v, Try.f3.params[j]? = some t → args[j]? = some v → Value.okWide Try.prog W .any base t v := hval0
  have hlt := hW.lt
  have hW' := hW
  obtain ⟨p, q, hA0, hV, hpq, _, _⟩ := hW
  have hA : DataW.TrodAll enc Try.prog W 0 (fun _ => true) true Try.f3.params.toList args.toList ds p := hA0
  rw [Try.params3] at hA hval
  obtain ⟨v0, vs0, d0, ds0, p0, q0, hargs, rfl, rfl, h0, r0⟩ := trodAll_cons hA
  obtain ⟨rfl, rfl, rfl⟩ := trodAll_nil r0
  obtain rfl : args = #[v0] := by cases args; simp_all
  obtain ⟨rfl, rfl⟩ := trodVars_none hV
  obtain ⟨a0, rfl, rfl, rfl, w0⟩ := open_int Try.underlying22 (hval 0 22 v0 rfl rfl) h0
  have b0 : 0 ≤ a0 ∧ a0 ≤ 18446744073709551615 := by simpa [Lit.wf, IntKind.min, IntKind.max, IntKind.bits, IntKind.signed] using w0
  refine (walk W a0 b0).mono fun e W' ⟨he, hbl⟩ => ?_
  subst he
  exact ⟨_, rfl, law_post laidOut (by kernel_rfl) rfl (by kernel_rfl) Try.underlying4 rfl rfl rfl hW' hbl⟩

theorem over : Rows.floatShortestRow.holds Try.pinned (OpenSpec.ofChange Rows.floatShortestSpec) :=
  OpenClaim.holds_of_wide 3 Try.f3 rfl rfl rfl rfl rfl rfl rfl ⟨rfl, rfl, rfl, rfl, rfl⟩ rfl rfl rfl rfl rfl (by kernel_rfl) Try.func3 (by kernel_rfl)
    (of_decide_eq_true (by kernel_rfl)) (by unfold Func.isWrapper; first | (rw [if_pos (by decide +kernel)]; kernel_rfl) | (rw [if_neg (by decide +kernel)]; exact ⟨rfl, rfl⟩))
    (fun os started H enc _ => lifted os started H enc)

/-- The statement. -/
theorem proved : Rows.FloatShortestSaid := over
#print axioms proved
end Go.Proofs.Ytfkgclldjkanaaa.floatShortest
