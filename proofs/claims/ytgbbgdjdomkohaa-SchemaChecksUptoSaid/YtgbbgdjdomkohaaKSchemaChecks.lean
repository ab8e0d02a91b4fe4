/-
  PROVED: the law SchemaChecks returns true for all two schemas that are together of bulk at most 1048576, and leaves them as they were (Rows.SchemaChecksUptoSaid). Conditions: none beside the row's own.
-/
import Derived.Test.YtgbbgdjdomkohaaKBK
import Derived.Test.YtgbbgdjdomkohaaKBL
import Derived.Test.YtgbbgdjdomkohaaKBM
import Derived.JoinedCond
namespace Go.Proofs.Ytgbbgdjdomkohaa.schemaChecks
open Go.ChangeShapes Go.WideShapes Go.ChangeAt Go.RowKit Go.Sort

theorem width_wrap (m : Nat) (h : m ≤ 1099511627776) : IntKind.i64.wrap ((IntKind.i64.wrap ((m : Int) + 63)).tdiv 64) = ((m : Int) + 63) / 64 := by
  have h' : (m : Int) ≤ 1099511627776 := by omega
  rw [IntWalk.i64_in ((m : Int) + 63) (by omega), Int.tdiv_eq_ediv_of_nonneg (by omega), IntWalk.i64_in _ (by omega)]
set_option maxHeartbeats 4000000 in
set_option maxRecDepth 100000 in
theorem walk (xs : List Nd) (A : Option Addr) (ca : Nat) (ys : List Nd) (B : Option Addr) (cb : Nat) (w : World) (hx : RdN w w.heap.size A xs) (hox : ∀ x ∈ xs, okN x) (hlx : xs.length ≤ 1048576) (hy : RdN w w.heap.size B ys) (hoy : ∀ x ∈ ys, okN x) (hly : ys.length ≤ 1048576) :
    Calls Try.prog 3 #[vS A xs ca, vS B ys cb] w fun e w' => e = .returned (.bool true) ∧ Below w.heap.size w w' := by
  obtain ⟨w2, hw2, b1, b2, S⟩ := iblk2 w 24 #[.slice A xs.length ca] #[.slice B ys.length cb]
  have HA := Lib.hid (fun W => sch_awake W)
  have HS := Lib.hid S
  have HUP : Hid (∀ W, Below w2.heap.size w2 W → Below w.heap.size w W) := Lib.hid fun W hW => S.trans (hW.mono S.size)
  have HCELL : Hid (∀ W, Below w2.heap.size w2 W → W.cell? ⟨w.heap.size, 0, none⟩ = some (.slice A xs.length ca) ∧ W.cell? ⟨w.heap.size + 1, 0, none⟩ = some (.slice B ys.length cb)) := Lib.hid fun W hW => ⟨sblk (b1.on hW), sblk (b2.on hW)⟩
  have hmx : xs.length ≤ 1099511627776 := by omega
  have hmy : ys.length ≤ 1099511627776 := by omega
  have HG1 := Lib.hid (fun W (hW : Below w.heap.size w W) => sref_Great xs A ca w.heap.size W hW.size (hx.keep hW) hox hmx)
  have HG2 := Lib.hid (fun W (hW : Below w.heap.size w W) => sref_Great ys B cb w.heap.size W hW.size (hy.keep hW) hoy hmy)
  have HC1 := Lib.hid (fun W (hW : Below w.heap.size w W) => sch_Check xs A ca w.heap.size W hW.size (hx.keep hW) hox hmx)
  have HC2 := Lib.hid (fun W (hW : Below w.heap.size w W) => sref_Check xs A ca w.heap.size W hW.size (hx.keep hW) hox hmx)
  have HE1 := Lib.hid (fun W (hW : Below w.heap.size w W) => sch_Same xs ys A B ca cb w.heap.size W hW.size (hx.keep hW) (hy.keep hW) hox hmx)
  have HE2 := Lib.hid (fun W (hW : Below w.heap.size w W) => sref_Same xs ys A B ca cb w.heap.size W hW.size (hx.keep hW) (hy.keep hW) hox hmx)
  have HE3 := Lib.hid (fun W (hW : Below w.heap.size w W) => sch_Same xs xs A A ca ca w.heap.size W hW.size (hx.keep hW) (hx.keep hW) hox hmx)
  have HWD := Lib.hid (fun W => sch_Width xs A ca W hmx)
  rw [sameS_refl] at HE3
  generalize greatS xs = g1 at *
  generalize greatS ys = g2 at *
  generalize ((checkI chI xs : Nat) : Int) = ci at *
  generalize checkE chI xs = ce at *
  generalize sameS xs ys = r at *
  unfold vS at *
  generalize xs.length = m at *
  generalize ys.length = z at *
  have HWR := Lib.hid (width_wrap m hmx)
  clear S b1 b2 hx hox hlx hy hoy hly hmy hmx
  cases g1 with
  | true =>
    go_enter Try.func3, Try.ntmps3
    go_wp2_with (first
      | (go_at_call 5; refine (HA.out _).mono ?_; rintro e w3 ⟨rfl, hb3⟩; obtain ⟨a0, a1⟩ := HCELL.out w3 hb3; have HB3 := Lib.hid hb3; clear hb3)
      | (go_at_call 6; refine (HG1.out _ (HUP.out _ HB3.out)).mono ?_; rintro e w4 ⟨rfl, hb4⟩; have HB4 := Lib.hid (HB3.out.trans (hb4.mono HB3.out.size)); clear hb4)
      | fail)
    go_ret
    exact ⟨rfl, HUP.out _ HB4.out⟩
  | false =>
  cases g2 with
  | true =>
    go_enter Try.func3, Try.ntmps3
    go_wp2_with (first
      | (go_at_call 5; refine (HA.out _).mono ?_; rintro e w3 ⟨rfl, hb3⟩; obtain ⟨a0, a1⟩ := HCELL.out w3 hb3; have HB3 := Lib.hid hb3; clear hb3)
      | (go_at_call 6; (with_reducible refine (HG1.out _ (HUP.out _ HB3.out)).mono ?_); rintro e w4 ⟨rfl, hb4⟩; have HB4 := Lib.hid (HB3.out.trans (hb4.mono HB3.out.size)); obtain ⟨c0, c1⟩ := HCELL.out w4 HB4.out; clear hb4)
      | (go_at_call 6; (with_reducible refine (HG2.out _ (HUP.out _ HB4.out)).mono ?_); rintro e w5 ⟨rfl, hb5⟩; have HB5 := Lib.hid (HB4.out.trans (hb5.mono HB4.out.size)); clear hb5)
      | fail)
    go_ret
    exact ⟨rfl, HUP.out _ HB5.out⟩
  | false =>
    go_enter Try.func3, Try.ntmps3
    go_wp2_with (first
      | (go_at_call 5; refine (HA.out _).mono ?_; rintro e w3 ⟨rfl, hb3⟩; obtain ⟨a0, a1⟩ := HCELL.out w3 hb3; have HB3 := Lib.hid hb3; clear hb3)
      | (go_at_call 6; (with_reducible refine (HG1.out _ (HUP.out _ HB3.out)).mono ?_); rintro e w4 ⟨rfl, hb4⟩; have HB4 := Lib.hid (HB3.out.trans (hb4.mono HB3.out.size)); obtain ⟨c0, c1⟩ := HCELL.out w4 HB4.out; clear hb4)
      | (go_at_call 6; (with_reducible refine (HG2.out _ (HUP.out _ HB4.out)).mono ?_); rintro e w5 ⟨rfl, hb5⟩; have HB5 := Lib.hid (HB4.out.trans (hb5.mono HB4.out.size)); obtain ⟨d0, d1⟩ := HCELL.out w5 HB5.out; clear hb5)
      | (go_at_call 7; refine (HC1.out _ (HUP.out _ HB5.out)).mono ?_; rintro e w6 ⟨rfl, hb6⟩; have HB6 := Lib.hid (HB5.out.trans (hb6.mono HB5.out.size)); obtain ⟨e0, e1⟩ := HCELL.out w6 HB6.out; clear hb6)
      | (go_at_call 8; refine (HC2.out _ (HUP.out _ HB6.out)).mono ?_; rintro e w7 ⟨rfl, hb7⟩; have HB7 := Lib.hid (HB6.out.trans (hb7.mono HB6.out.size)); clear hb7)
      | fail)
    clear a0 a1 c0 c1 d0 d1 e0 e1 hw2
    obtain ⟨i0, i1⟩ := HCELL.out w7 HB7.out
    have up := fun dq os => HUP.out _ (HB7.out.trans ((below_regrown w7 dq os).mono HB7.out.size))
    have K1 := Lib.hid (fun dq os => Calls.regrown_of (HE1.out (grow (redrawn w7 dq) os) (up dq os)))
    have K2 := Lib.hid (fun dq os => Calls.regrown_of (HE2.out (grow (redrawn w7 dq) os) (up dq os)))
    have K3 := Lib.hid (fun dq os => Calls.regrown_of (HE3.out (grow (redrawn w7 dq) os) (up dq os)))
    have K4 := Lib.hid (fun dq os => Calls.regrown_of (HWD.out (grow (redrawn w7 dq) os)))
    have k0 := cell_regrown i0
    have k1 := cell_regrown i1
    clear up i0 i1 HE1 HE2 HE3 HWD HC1 HC2 HA HG1 HG2 HCELL
    cases r <;>
    · refine wp_region_quiet_below (by kernel_rfl) (by kernel_rfl) ?_
      repeat (quiet_step (first | (with_reducible exact K1.out _ _) | (with_reducible exact K2.out _ _) | (with_reducible exact K3.out _ _) | (with_reducible exact K4.out _ _)))
      refine wpQuiet_nil ?_
      intro _ hw'
      obtain ⟨⟨dq, osq⟩, hw''⟩ := hw'
      subst hw''
      go_wp2_with fail
      go_ret
      exact ⟨by first | rfl | (simp [HWR.out]; done), HUP.out _ (HB7.out.trans ((below_regrown w7 dq osq).mono HB7.out.size))⟩

theorem own : ownKnob Try.prog.godebug = none := by kernel_rfl
theorem laidOut : laidOutB Try.prog = true := by kernel_rfl
set_option maxRecDepth 100000 in
theorem contract (H : Type) (enc : TypeId × Value → H) (W : World) (base : Nat) (args : Array Value) (ds gs : List (DataW H)) (before : List MemPlace) (hk : Rows.uptoSmall H (ds ++ gs) = true)
    (hval : ∀ (j : Nat) t v, Try.f3.params[j]? = some t → args[j]? = some v → Value.okWide Try.prog W .any base t v)
    (hW : DataW.Whole enc Try.prog Try.f3.params.toList Rows.schemaChecksSpec.vars false W args.toList ds gs before) :
    Calls Try.prog 3 args W fun e W' => ∃ v, e = .returned v ∧ Rows.schemaChecksSpec.post enc Try.prog Try.f3 false true false false W args v W' := by
  have hW' := hW
  obtain ⟨p, q, hA0, hV, hpq, _, _⟩ := hW
  have hA : DataW.TrodAll enc Try.prog W 0 (fun _ => true) true Try.f3.params.toList args.toList ds p := hA0
  rw [Try.params3] at hA hval
  obtain ⟨v0, vs0, d0, ds0, p0, q0, hargs, rfl, rfl, h0, r0⟩ := trodAll_cons hA
  obtain ⟨v1, vs1, d1, ds1, p1, q1, rfl, rfl, rfl, h1, r1⟩ := trodAll_cons r0
  obtain ⟨rfl, rfl, rfl⟩ := trodAll_nil r1
  obtain rfl : args = #[v0, v1] := by cases args; simp_all
  obtain ⟨rfl, rfl⟩ := trodVars_none hV
  have hs : Rows.uptoBulk d0 + (Rows.uptoBulk d1 + 0) ≤ 1048576 := of_decide_eq_true hk
  obtain ⟨x0, A0, c0, rfl, hx0, ho0, hl0⟩ := open_schema (hval 0 24 v0 rfl rfl) h0 (by omega)
  obtain ⟨x1, A1, c1, rfl, hx1, ho1, hl1⟩ := open_schema (hval 1 24 v1 rfl rfl) h1 (by omega)
  refine (walk x0 A0 c0 x1 A1 c1 W hx0 ho0 hl0 hx1 ho1 hl1).mono fun e W' ⟨he, hbl⟩ => ?_
  subst he
  exact ⟨_, rfl, law_post laidOut (by kernel_rfl) rfl (by kernel_rfl) Try.underlying4 rfl rfl rfl hW' hbl⟩
set_option maxRecDepth 100000 in
theorem lifted (os : Os) (started : os.Started) (H : Type) (enc : TypeId × Value → H) (F : Stop.Interp) :
    ReturnsInHanded {} Try.checked os 3 .any ((Rows.OpenSpec.upto Rows.schemaChecksSpec).pre6 enc Try.prog Try.f3 Rows.schemaChecksUptoRow.domain false) (((Rows.OpenSpec.upto Rows.schemaChecksSpec).at F).post enc Try.prog Try.f3 false true false false) := by
  refine returnsInHanded_of_cond (C := Try.checked) (s := Rows.OpenSpec.upto Rows.schemaChecksSpec) (k := Rows.uptoSmall) rfl own started (by kernel_rfl) Try.func3
    (OpenSpec.witness (enc := enc) (C := Try.checked) (s := Rows.OpenSpec.upto Rows.schemaChecksSpec) (k := Rows.uptoSmall) rfl false ⟨#[], #[.agg #[.slice none 0 0], .agg #[.slice none 0 0]], []⟩ 8 (by kernel_rfl) (by kernel_rfl) (by kernel_rfl)
      (x := ([.agg [.nil], .agg [.nil]], [], [])) (by kernel_rfl) rfl (by kernel_rfl)) ?_
  intro W base args ds gs before hval hW _ hk _
  exact contract H enc W base args ds gs before hk hval hW
theorem over : Rows.schemaChecksUptoRow.holds Try.pinned (Rows.OpenSpec.upto Rows.schemaChecksSpec) :=
  OpenClaim.holds_of_cond 3 Try.f3 rfl rfl rfl rfl rfl rfl rfl ⟨rfl, rfl, rfl, rfl, rfl⟩ rfl rfl rfl rfl rfl (by kernel_rfl) Try.func3 (by kernel_rfl)
    (of_decide_eq_true (by kernel_rfl)) (by unfold Func.isWrapper; first | (rw [if_pos (by decide +kernel)]; kernel_rfl) | (rw [if_neg (by decide +kernel)]; exact ⟨rfl, rfl⟩))
    (fun os started H enc _ F => lifted os started H enc F)

/-- The statement. -/
theorem proved : Rows.SchemaChecksUptoSaid := over
#print axioms proved
end Go.Proofs.Ytgbbgdjdomkohaa.schemaChecks
