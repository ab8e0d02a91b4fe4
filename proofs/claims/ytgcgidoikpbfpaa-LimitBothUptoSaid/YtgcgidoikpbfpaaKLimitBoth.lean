/-
  PROVED: the law LimitBoth returns true for every item of bulk at most 1048576 and all limits, and leaves the item as it was (Rows.LimitBothUptoSaid). Conditions: none beside the row's own.
-/
import Derived.Test.YtgcgidoikpbfpaaKBM
import Derived.JoinedCond
namespace Go.Proofs.Ytgcgidoikpbfpaa.limitBoth
open Go.ChangeShapes Go.WideShapes Go.ChangeAt Go.RowKit Go.Sort

theorem right_min {a b c d e f : Int} (h : rightL a b c = true) (g : rightL d e f = true) : rightL (min a d) (min b e) (min c f) = true := by
  have h1 := rightL_true.1 h
  have h2 := rightL_true.1 g
  exact rightL_true.2 (by omega)
theorem fits_min {x : It} {a b c d e f : Int} (h : rightL a b c = true) (g : rightL d e f = true) : fitsR x (min a d) (min b e) (min c f) = 0 ↔ fitsR x a b c = 0 ∧ fitsR x d e f = 0 := by
  rw [fitsR_zero, fitsR_zero, fitsR_zero]
  constructor
  · rintro ⟨_, h1, h2, h3, h4⟩
    exact ⟨⟨h, h1, by omega, by omega, by omega⟩, ⟨g, h1, by omega, by omega, by omega⟩⟩
  · rintro ⟨⟨_, h1, h2, h3, h4⟩, _, _, h5, h6, h7⟩
    exact ⟨right_min h g, h1, by omega, by omega, by omega⟩

set_option maxHeartbeats 4000000 in
set_option maxRecDepth 100000 in
theorem walk (x : It) (A : Option Addr) (cap : Nat) (d k s d' k' s' : Int) (w : World) (hx : okI 1048576 x) (h : AtV w x A cap) :
    Calls Try.prog 4 #[vI x A cap, vL d k s, vL d' k' s'] w fun e w' => e = .returned (.bool true) ∧ Below w.heap.size w w' := by
  obtain ⟨w2, hw2, b1, b2, b3, S, hz⟩ := alloc3 w 25 27 27 #[.int .i64 x.k, .int .u64 x.n, .string x.s, .slice A x.l.length cap] #[.int .i64 d, .int .i64 k, .int .i64 s] #[.int .i64 d', .int .i64 k', .int .i64 s']
  have H := h.toB
  have hcount := hx.1
  have HA := Lib.hid (fun W => lim_awake W)
  obtain ⟨g, hg⟩ : ∃ r, greatB x = r := ⟨_, rfl⟩
  have hG := fun W (hW : Below w.heap.size w W) => ref_Great x A cap w.heap.size W (by omega) hW.size (H.keep hW)
  rw [hg] at hG
  have HG := Lib.hid hG
  have hcell : ∀ W, Below w2.heap.size w2 W → (W.cell? ⟨w.heap.size, 0, none⟩ = some (.int .i64 x.k) ∧ W.cell? ⟨w.heap.size, 1, none⟩ = some (.int .u64 x.n) ∧ W.cell? ⟨w.heap.size, 2, none⟩ = some (.string x.s) ∧ W.cell? ⟨w.heap.size, 3, none⟩ = some (.slice A x.l.length cap)) ∧ (W.cell? ⟨w.heap.size + 1, 0, none⟩ = some (.int .i64 d) ∧ W.cell? ⟨w.heap.size + 1, 1, none⟩ = some (.int .i64 k) ∧ W.cell? ⟨w.heap.size + 1, 2, none⟩ = some (.int .i64 s)) ∧ W.cell? ⟨w.heap.size + 2, 0, none⟩ = some (.int .i64 d') ∧ W.cell? ⟨w.heap.size + 2, 1, none⟩ = some (.int .i64 k') ∧ W.cell? ⟨w.heap.size + 2, 2, none⟩ = some (.int .i64 s') := fun W hb => by
    obtain ⟨r0, r1, r2, r3, -⟩ := iblk (b1.on hb)
    exact ⟨⟨r0, r1, r2, r3⟩, lblk (b2.on hb), lblk (b3.on hb)⟩
  have hup : ∀ W, Below w2.heap.size w2 W → Below w.heap.size w W := fun W hW => S.trans (hW.mono S.size)
  have HCELL := Lib.hid hcell
  have HUP := Lib.hid hup
  have hCC := fun (a b c : Int) W => limit_Check a b c W
  have hc1 : rightR d k s = if rightL d k s = true then 0 else 15 := rfl
  have hc2 : rightR d' k' s' = if rightL d' k' s' = true then 0 else 15 := rfl
  obtain ⟨r1, hr1⟩ : ∃ r, rightL d k s = r := ⟨_, rfl⟩
  obtain ⟨r2, hr2⟩ : ∃ r, rightL d' k' s' = r := ⟨_, rfl⟩
  rw [hr1] at hc1
  rw [hr2] at hc2
  simp only [vL] at hCC
  have HCC := Lib.hid hCC
  have R1 := Lib.hid hc1
  have R2 := Lib.hid hc2
  clear hc1 hc2 hCC hG hup
  obtain ⟨⟨p0, p1, p2, p3⟩, ⟨p4, p5, p6⟩, p7, p8, p9⟩ := hcell w2 (Below.refl _ _)
  cases hgg : g with
  | true =>
    subst hgg
    clear hcell S b1 b2 b3 h H hx hcount hg hz hr1 hr2
    simp only [vI, vL] at *
    go_enter Try.func4, Try.ntmps4
    go_wp2_with (first
        | (go_at_call 5; refine (HA.out _).mono ?_; rintro e w3 ⟨rfl, hb3⟩; obtain ⟨⟨a0, a1, a2, a3⟩, -⟩ := HCELL.out w3 hb3; have HB3 := Lib.hid hb3; clear hb3)
        | (go_at_call 6; refine (HG.out _ (HUP.out _ HB3.out)).mono ?_; rintro e w4 ⟨rfl, hb4⟩; have HB4 := Lib.hid (HB3.out.trans (hb4.mono HB3.out.size)); clear hb4))
    go_ret
    exact ⟨rfl, HUP.out _ HB4.out⟩
  | false =>
  subst hgg
  cases hrr : r1 && r2 with
  | false =>
    clear hcell S b1 b2 b3 h H hx hcount hg hz hr1 hr2
    simp only [vI, vL] at *
    cases r1 with
    | false =>
      go_enter Try.func4, Try.ntmps4
      go_wp2_with (first
        | (go_at_call 5; refine (HA.out _).mono ?_; rintro e w3 ⟨rfl, hb3⟩; obtain ⟨⟨a0, a1, a2, a3⟩, -⟩ := HCELL.out w3 hb3; have HB3 := Lib.hid hb3; clear hb3)
        | (go_at_call 6; refine (HG.out _ (HUP.out _ HB3.out)).mono ?_; rintro e w4 ⟨rfl, hb4⟩; have HB4 := Lib.hid (HB3.out.trans (hb4.mono HB3.out.size)); obtain ⟨-, ⟨c4, c5, c6⟩, c7, c8, c9⟩ := HCELL.out w4 HB4.out; clear hb4)
        | (go_at_call 9; refine (HCC.out _ _ _ _).mono ?_; rintro e w5 ⟨rfl, hb5⟩; rw [R1.out]; have HB5 := Lib.hid (HB4.out.trans (hb5.mono HB4.out.size)); clear hb5))
      go_ret
      exact ⟨rfl, HUP.out _ HB5.out⟩
    | true =>
      obtain rfl : r2 = false := by simpa using hrr
      go_enter Try.func4, Try.ntmps4
      go_wp2_with (first
        | (go_at_call 5; refine (HA.out _).mono ?_; rintro e w3 ⟨rfl, hb3⟩; obtain ⟨⟨a0, a1, a2, a3⟩, -⟩ := HCELL.out w3 hb3; have HB3 := Lib.hid hb3; clear hb3)
        | (go_at_call 6; refine (HG.out _ (HUP.out _ HB3.out)).mono ?_; rintro e w4 ⟨rfl, hb4⟩; have HB4 := Lib.hid (HB3.out.trans (hb4.mono HB3.out.size)); obtain ⟨-, ⟨c4, c5, c6⟩, c7, c8, c9⟩ := HCELL.out w4 HB4.out; clear hb4)
        | (go_at_call 9; refine (HCC.out _ _ _ _).mono ?_; rintro e w5 ⟨rfl, hb5⟩; rw [R1.out]; have HB5 := Lib.hid (HB4.out.trans (hb5.mono HB4.out.size)); obtain ⟨-, -, d7, d8, d9⟩ := HCELL.out w5 HB5.out; clear hb5)
        | (go_at_call 9; refine (HCC.out _ _ _ _).mono ?_; rintro e w6 ⟨rfl, hb6⟩; rw [R2.out]; have HB6 := Lib.hid (HB5.out.trans (hb6.mono HB5.out.size)); clear hb6))
      go_ret
      exact ⟨rfl, HUP.out _ HB6.out⟩
  | true =>
  rw [Bool.and_eq_true] at hrr
  obtain ⟨rfl, rfl⟩ := hrr
  have hbk := Nat.le_trans (great_bulk hg) (by decide : 1000000 ≤ 1099511627776)
  have hF := fun (d k s : Int) W (hW : Below w.heap.size w W) => limit_Fits x A cap w.heap.size d k s W hx hbk hW.size (H.keep hW)
  have q1 := @fits_min x _ _ _ _ _ _ hr1 hr2
  have hC3 := fun W => limit_Check (min d d') (min k k') (min s s') W
  unfold rightR at hC3
  rw [right_min hr1 hr2, if_pos rfl] at hC3
  have hB := fun (a b c d e f : Int) W => limit_Both a b c d e f W
  obtain ⟨D, hD⟩ : ∃ D, min d d' = D := ⟨_, rfl⟩
  obtain ⟨M, hM⟩ : ∃ M, min k k' = M := ⟨_, rfl⟩
  obtain ⟨Z, hZ⟩ : ∃ Z, min s s' = Z := ⟨_, rfl⟩
  have m1 : min d' d = D := by omega
  have m2 : min k' k = M := by omega
  have m3 : min s' s = Z := by omega
  have m4 : min D d = D := by omega
  have m5 : min M k = M := by omega
  have m6 : min Z s = Z := by omega
  rw [hD, hM, hZ] at q1 hC3
  obtain ⟨F, hF0⟩ : ∃ F, fitsR x = F := ⟨_, rfl⟩
  rw [hF0] at q1 hF
  simp only [vI, vL] at hF hC3 hB ⊢
  have HF := Lib.hid hF
  have HC3 := Lib.hid hC3
  have HBB := Lib.hid hB
  have Q1 := Lib.hid q1
  clear hcell S b1 b2 b3 h H hx hcount hg hz hr1 hr2 hF hC3 hB q1 hF0 hbk
  go_enter Try.func4, Try.ntmps4
  go_wp2_with (first
        | (go_at_call 5; refine (HA.out _).mono ?_; rintro e w3 ⟨rfl, hb3⟩; obtain ⟨⟨a0, a1, a2, a3⟩, -⟩ := HCELL.out w3 hb3; have HB3 := Lib.hid hb3; clear hb3)
        | (go_at_call 6; refine (HG.out _ (HUP.out _ HB3.out)).mono ?_; rintro e w4 ⟨rfl, hb4⟩; have HB4 := Lib.hid (HB3.out.trans (hb4.mono HB3.out.size)); obtain ⟨-, ⟨c4, c5, c6⟩, c7, c8, c9⟩ := HCELL.out w4 HB4.out; clear hb4)
        | (go_at_call 9; refine (HCC.out _ _ _ _).mono ?_; rintro e w5 ⟨rfl, hb5⟩; rw [R1.out]; have HB5 := Lib.hid (HB4.out.trans (hb5.mono HB4.out.size)); obtain ⟨-, -, d7, d8, d9⟩ := HCELL.out w5 HB5.out; clear hb5)
        | (go_at_call 9; refine (HCC.out _ _ _ _).mono ?_; rintro e w6 ⟨rfl, hb6⟩; rw [R2.out]; have HB6 := Lib.hid (HB5.out.trans (hb6.mono HB5.out.size)); obtain ⟨-, ⟨e4, e5, e6⟩, e7, e8, e9⟩ := HCELL.out w6 HB6.out; clear hb6)
        | (go_at_call 10; refine (HBB.out _ _ _ _ _ _ _).mono ?_; rintro e w7 ⟨rfl, hb7⟩; rw [hD, hM, hZ]; have HB7 := Lib.hid (HB6.out.trans (hb7.mono HB6.out.size)); clear hb7))
  obtain ⟨w8, hw8, bN, L8⟩ := stored0 (t := 27) (.int .i64 D) (.int .i64 M) (.int .i64 Z) HB7.out
  rw [hw8]
  obtain ⟨⟨i0, i1, i2, i3⟩, ⟨i4, i5, i6⟩, i7, i8, i9⟩ := HCELL.out w8 L8
  obtain ⟨n0, n1, n2⟩ := lblk bN
  have HL8 := Lib.hid L8
  clear a0 a1 a2 a3 c4 c5 c6 c7 c8 c9 d7 d8 d9 e4 e5 e6 e7 e8 e9 p0 p1 p2 p3 p4 p5 p6 p7 p8 p9 hw8 hw2 bN L8 HB3 HB4 HB5 HB6 HB7 HA HG HCC R1 R2 HCELL
  obtain ⟨gN, hgN⟩ : ∃ gN, w7.heap.size = gN := ⟨_, rfl⟩
  rw [hgN] at n0 n1 n2 ⊢
  clear hgN
  have up := fun dq os => HUP.out _ (HL8.out.trans ((below_regrown w8 dq os).mono HL8.out.size))
  have K1 := Lib.hid (fun dq os => Calls.regrown_of (HC3.out (grow (redrawn w8 dq) os)))
  have K2 := Lib.hid (fun a b c dq os => Calls.regrown_of (HF.out a b c (grow (redrawn w8 dq) os) (up dq os)))
  have K3 := Lib.hid (fun a b c d e f dq os => Calls.regrown_of (HBB.out a b c d e f (grow (redrawn w8 dq) os)))
  have ki0 := cell_regrown i0
  have ki1 := cell_regrown i1
  have ki2 := cell_regrown i2
  have ki3 := cell_regrown i3
  have ki4 := cell_regrown i4
  have ki5 := cell_regrown i5
  have ki6 := cell_regrown i6
  have ki7 := cell_regrown i7
  have ki8 := cell_regrown i8
  have ki9 := cell_regrown i9
  have kn0 := cell_regrown n0
  have kn1 := cell_regrown n1
  have kn2 := cell_regrown n2
  clear up HC3 HF HBB i0 i1 i2 i3 i4 i5 i6 i7 i8 i9 n0 n1 n2
  by_cases h2 : F d k s = 0
  · by_cases h3 : F d' k' s' = 0
    · have h1 : F D M Z = 0 := Q1.out.2 ⟨h2, h3⟩
      clear Q1
      refine wp_region_quiet_below (by kernel_rfl) (by kernel_rfl) ?_
      repeat (quiet_step (first | exact K1.out _ _ | exact K2.out _ _ _ _ _ | exact K3.out _ _ _ _ _ _ _ _))
      refine wpQuiet_nil ?_
      intro _ hw'
      obtain ⟨⟨dq, osq⟩, hw''⟩ := hw'
      subst hw''
      go_wp2_with fail
      go_ret
      exact ⟨rfl, HUP.out _ (HL8.out.trans ((below_regrown w8 dq osq).mono HL8.out.size))⟩
    · have h1 : F D M Z ≠ 0 := fun e => h3 (Q1.out.1 e).2
      have e1 : (F D M Z == 0) = false := beq_eq_false_iff_ne.2 h1
      have e3 : (F d' k' s' == 0) = false := beq_eq_false_iff_ne.2 h3
      clear Q1 h1 h3
      refine wp_region_quiet_below (by kernel_rfl) (by kernel_rfl) ?_
      repeat (quiet_step (first | exact K1.out _ _ | exact K2.out _ _ _ _ _ | exact K3.out _ _ _ _ _ _ _ _))
      refine wpQuiet_nil ?_
      intro _ hw'
      obtain ⟨⟨dq, osq⟩, hw''⟩ := hw'
      subst hw''
      go_wp2_with fail
      go_ret
      exact ⟨rfl, HUP.out _ (HL8.out.trans ((below_regrown w8 dq osq).mono HL8.out.size))⟩
  · have h1 : F D M Z ≠ 0 := fun e => h2 (Q1.out.1 e).1
    have e1 : (F D M Z == 0) = false := beq_eq_false_iff_ne.2 h1
    have e2 : (F d k s == 0) = false := beq_eq_false_iff_ne.2 h2
    clear Q1 h1 h2
    refine wp_region_quiet_below (by kernel_rfl) (by kernel_rfl) ?_
    repeat (quiet_step (first | exact K1.out _ _ | exact K2.out _ _ _ _ _ | exact K3.out _ _ _ _ _ _ _ _))
    refine wpQuiet_nil ?_
    intro _ hw'
    obtain ⟨⟨dq, osq⟩, hw''⟩ := hw'
    subst hw''
    go_wp2_with fail
    go_ret
    exact ⟨rfl, HUP.out _ (HL8.out.trans ((below_regrown w8 dq osq).mono HL8.out.size))⟩

theorem own : ownKnob Try.prog.godebug = none := by kernel_rfl
theorem laidOut : laidOutB Try.prog = true := by kernel_rfl
set_option maxRecDepth 100000 in
theorem contract (H : Type) (enc : TypeId × Value → H) (W : World) (base : Nat) (args : Array Value) (ds gs : List (DataW H)) (before : List MemPlace) (hk : Rows.uptoSmall H (ds ++ gs) = true)
    (hval : ∀ (j : Nat) t v, Try.f4.params[j]? = some t → args[j]? = some v → Value.okWide Try.prog W .any base t v)
    (hW : DataW.Whole enc Try.prog Try.f4.params.toList Rows.limitBothSpec.vars false W args.toList ds gs before) :
    Calls Try.prog 4 args W fun e W' => ∃ v, e = .returned v ∧ Rows.limitBothSpec.post enc Try.prog Try.f4 false true false false W args v W' := by
  have hW' := hW
  obtain ⟨p, q, hA0, hV, hpq, _, _⟩ := hW
  have hA : DataW.TrodAll enc Try.prog W 0 (fun _ => true) true Try.f4.params.toList args.toList ds p := hA0
  rw [Try.params4] at hA hval
  obtain ⟨v0, vs0, d0, ds0, p0, q0, hargs, rfl, rfl, h0, r0⟩ := trodAll_cons hA
  obtain ⟨v1, vs1, d1, ds1, p1, q1, rfl, rfl, rfl, h1, r1⟩ := trodAll_cons r0
  obtain ⟨v2, vs2, d2, ds2, p2, q2, rfl, rfl, rfl, h2, r2⟩ := trodAll_cons r1
  obtain ⟨rfl, rfl, rfl⟩ := trodAll_nil r2
  obtain rfl : args = #[v0, v1, v2] := by cases args; simp_all
  obtain ⟨rfl, rfl⟩ := trodVars_none hV
  have hs : Rows.uptoBulk d0 + (Rows.uptoBulk d1 + (Rows.uptoBulk d2 + 0)) ≤ 1048576 := of_decide_eq_true hk
  obtain ⟨x0, A0, c0, rfl, hx0, ho0⟩ := open_item (hval 0 25 v0 rfl rfl) h0
  obtain ⟨a1, b1, e1, rfl⟩ := open_limits (hval 1 27 v1 rfl rfl) h1
  obtain ⟨a2, b2, e2, rfl⟩ := open_limits (hval 2 27 v2 rfl rfl) h2
  refine (walk x0 A0 c0 a1 b1 e1 a2 b2 e2 W (okI_mono ho0 (by omega)) hx0).mono fun e W' ⟨he, hbl⟩ => ?_
  subst he
  exact ⟨_, rfl, law_post laidOut (by kernel_rfl) rfl (by kernel_rfl) Try.underlying4 rfl rfl rfl hW' hbl⟩
set_option maxRecDepth 100000 in
theorem lifted (os : Os) (started : os.Started) (H : Type) (enc : TypeId × Value → H) (F : Stop.Interp) :
    ReturnsInHanded {} Try.checked os 4 .any ((Rows.OpenSpec.upto Rows.limitBothSpec).pre6 enc Try.prog Try.f4 Rows.limitBothUptoRow.domain false) (((Rows.OpenSpec.upto Rows.limitBothSpec).at F).post enc Try.prog Try.f4 false true false false) := by
  refine returnsInHanded_of_cond (C := Try.checked) (s := Rows.OpenSpec.upto Rows.limitBothSpec) (k := Rows.uptoSmall) rfl own started (by kernel_rfl) Try.func4
    (OpenSpec.witness (enc := enc) (C := Try.checked) (s := Rows.OpenSpec.upto Rows.limitBothSpec) (k := Rows.uptoSmall) rfl false ⟨#[], #[.agg #[.int .i64 0, .int .u64 0, .string ⟨#[]⟩, .slice none 0 0], .agg #[.int .i64 0, .int .i64 0, .int .i64 0], .agg #[.int .i64 0, .int .i64 0, .int .i64 0]], []⟩ 8 (by kernel_rfl) (by kernel_rfl) (by kernel_rfl)
      (x := ([.agg [.lit (.int .i64 0), .lit (.int .u64 0), .lit (.string []), .nil], .agg [.lit (.int .i64 0), .lit (.int .i64 0), .lit (.int .i64 0)], .agg [.lit (.int .i64 0), .lit (.int .i64 0), .lit (.int .i64 0)]], [], [])) (by kernel_rfl) rfl (by kernel_rfl)) ?_
  intro W base args ds gs before hval hW _ hk _
  exact contract H enc W base args ds gs before hk hval hW
theorem over : Rows.limitBothUptoRow.holds Try.pinned (Rows.OpenSpec.upto Rows.limitBothSpec) :=
  OpenClaim.holds_of_cond 4 Try.f4 rfl rfl rfl rfl rfl rfl rfl ⟨rfl, rfl, rfl, rfl, rfl⟩ rfl rfl rfl rfl rfl (by kernel_rfl) Try.func4 (by kernel_rfl)
    (of_decide_eq_true (by kernel_rfl)) (by unfold Func.isWrapper; first | (rw [if_pos (by decide +kernel)]; kernel_rfl) | (rw [if_neg (by decide +kernel)]; exact ⟨rfl, rfl⟩))
    (fun os started H enc _ F => lifted os started H enc F)

/-- The statement. -/
theorem proved : Rows.LimitBothUptoSaid := over
#print axioms proved
end Go.Proofs.Ytgcgidoikpbfpaa.limitBoth
