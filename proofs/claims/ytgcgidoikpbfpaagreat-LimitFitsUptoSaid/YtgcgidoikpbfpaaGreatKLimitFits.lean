/-
  PROVED: the law LimitFits returns true for every item of bulk at most 1048576 and all limits, and leaves the item as it was (Rows.LimitFitsUptoSaid). Conditions: none beside the row's own.
-/
import Derived.Test.YtgcgidoikpbfpaaGreatKBL
import Derived.Test.YtgcgidoikpbfpaaGreatKBM
import Derived.JoinedCond
namespace Go.Proofs.YtgcgidoikpbfpaaGreat.limitFits
open Go.ChangeShapes Go.WideShapes Go.ChangeAt Go.RowKit Go.Sort

set_option maxHeartbeats 4000000 in
set_option maxRecDepth 100000 in
theorem walk (x : It) (A : Option Addr) (cap : Nat) (d k s : Int) (w : World) (hx : okI 1048576 x) (h : AtV w x A cap) :
    Calls Tryz.prog 3 #[vI x A cap, vL d k s] w fun e w' => e = .returned (.bool true) ∧ Below w.heap.size w w' := by
  obtain ⟨w2, hw2, b1, b2, S⟩ : ∃ w2, (w.alloc (.cells #[.int .i64 x.k, .int .u64 x.n, .string x.s, .slice A x.l.length cap] 25)).alloc (.cells #[.int .i64 d, .int .i64 k, .int .i64 s] 27) = w2 ∧ Blk w2 w.heap.size 25 #[.int .i64 x.k, .int .u64 x.n, .string x.s, .slice A x.l.length cap] ∧ Blk w2 (w.heap.size + 1) 27 #[.int .i64 d, .int .i64 k, .int .i64 s] ∧ Below w.heap.size w w2 :=
    ⟨_, rfl, (Blk.fresh w _ _).alloc _, by have := Blk.fresh (w.alloc (.cells #[.int .i64 x.k, .int .u64 x.n, .string x.s, .slice A x.l.length cap] 25)) 27 #[.int .i64 d, .int .i64 k, .int .i64 s]; rwa [World.size_alloc] at this, (below_alloc w _).alloc (by simp) _⟩
  have H := h.toB
  have hcount := hx.1
  have HA := Lib.hid (fun W => lim_awake W)
  obtain ⟨g, hg⟩ : ∃ r, greatB x = r := ⟨_, rfl⟩
  have hG := fun W (hW : Below w.heap.size w W) => ref_Great x A cap w.heap.size W (by omega) hW.size (H.keep hW)
  rw [hg] at hG
  have HG := Lib.hid hG
  have hcell : ∀ W, Below w2.heap.size w2 W → (W.cell? ⟨w.heap.size, 0, none⟩ = some (.int .i64 x.k) ∧ W.cell? ⟨w.heap.size, 1, none⟩ = some (.int .u64 x.n) ∧ W.cell? ⟨w.heap.size, 2, none⟩ = some (.string x.s) ∧ W.cell? ⟨w.heap.size, 3, none⟩ = some (.slice A x.l.length cap)) ∧ W.cell? ⟨w.heap.size + 1, 0, none⟩ = some (.int .i64 d) ∧ W.cell? ⟨w.heap.size + 1, 1, none⟩ = some (.int .i64 k) ∧ W.cell? ⟨w.heap.size + 1, 2, none⟩ = some (.int .i64 s) := fun W hb => by
    obtain ⟨r0, r1, r2, r3, -⟩ := iblk (b1.on hb)
    exact ⟨⟨r0, r1, r2, r3⟩, lblk (b2.on hb)⟩
  have hup : ∀ W, Below w2.heap.size w2 W → Below w.heap.size w W := fun W hW => S.trans (hW.mono S.size)
  have HCELL := Lib.hid hcell
  have HUP := Lib.hid hup
  cases g with
  | true =>
    clear hcell hup S b1 b2 h H hx hcount hg hG
    simp only [vI, vL] at *
    go_enter Tryz.func3, Tryz.ntmps3
    go_wp2_with (first
        | (go_at_call 4; refine (HA.out _).mono ?_; rintro e w3 ⟨rfl, hb3⟩; obtain ⟨⟨a0, a1, a2, a3⟩, -⟩ := HCELL.out w3 hb3; have HB3 := Lib.hid hb3; clear hb3)
        | (go_at_call 5; refine (HG.out _ (HUP.out _ HB3.out)).mono ?_; rintro e w4 ⟨rfl, hb4⟩; have HB4 := Lib.hid (HB3.out.trans (hb4.mono HB3.out.size)); clear hb4))
    go_ret
    exact ⟨rfl, HUP.out _ HB4.out⟩
  | false =>
  have hgb := great_bulk hg
  have hbk := Nat.le_trans hgb (by decide : 1000000 ≤ 1099511627776)
  have hbk2 := Nat.le_trans hgb (by decide : 1000000 ≤ 1000000000)
  have hC := fun W (hW : Below w.heap.size w W) => ref_CheckW x A cap w.heap.size W hx hW.size (H.keep hW)
  have hK := fun (hz : checkR wrongI x = 0) W (hW : Below w.heap.size w W) => ref_Key x.count x A cap w.heap.size W (Nat.le_refl _) (check_ok (by omega : (1048576 : Nat) ≤ 1099511627776) hx hz) hbk2 hW.size (H.keep hW)
  have hLC := fun W => limit_Check d k s W
  have hRi := fun W => ref_Right d k s W
  have hLK := fun W (hW : Below w.heap.size w W) => limit_Key x A cap w.heap.size W hx hbk hW.size (H.keep hW)
  have hF := fun W (hW : Below w.heap.size w W) => limit_Fits x A cap w.heap.size d k s W hx hbk hW.size (H.keep hW)
  have hRF := fun W (hW : Below w.heap.size w W) => ref_Fits x A cap w.heap.size d k s W hx hbk2 hW.size (H.keep hW)
  unfold rightR at hLC
  obtain ⟨rg, hrg⟩ : ∃ b, rightL d k s = b := ⟨_, rfl⟩
  rw [hrg] at hLC hRi
  obtain ⟨fr, hfr⟩ : ∃ b, fitsR x d k s = b := ⟨_, rfl⟩
  rw [hfr] at hF hRF
  obtain ⟨lk, hlk⟩ : ∃ b : Int, (x.lkey : Int) = b := ⟨_, rfl⟩
  rw [hlk] at hK hLK
  obtain ⟨r, hr⟩ : ∃ b, checkR wrongI x = b := ⟨_, rfl⟩
  rw [hr] at hC hK hLK
  clear hcell hup S b1 b2 h H hx hcount hg hG hgb hbk hbk2 hrg hfr hlk hr
  simp only [vI, vL] at *
  have HC := Lib.hid hC
  have HK := Lib.hid hK
  have HLC := Lib.hid hLC
  have HRI := Lib.hid hRi
  have HLK := Lib.hid hLK
  have HF := Lib.hid hF
  have HRF := Lib.hid hRF
  clear hC hK hLC hRi hLK hF hRF
  by_cases hz : r = 0
  · subst hz
    have HK' := Lib.hid (HK.out rfl)
    have HLK' : RowKit.Hid (∀ W, Below w.heap.size w W → Calls Tryz.prog 10 #[.agg #[.int .i64 x.k, .int .u64 x.n, .string x.s, .slice A x.l.length cap]] W fun e w' => e = .returned (.int .i64 lk) ∧ Below W.heap.size W w') := Lib.hid (fun W hW => by have := HLK.out W hW; rw [if_pos rfl] at this; exact this)
    go_enter Tryz.func3, Tryz.ntmps3
    go_wp2_with (first
      | (go_at_call 4; refine (HA.out _).mono ?_; rintro e w3 ⟨rfl, hb3⟩; obtain ⟨⟨a0, a1, a2, a3⟩, -⟩ := HCELL.out w3 hb3; have HB3 := Lib.hid hb3; clear hb3)
      | (go_at_call 5; refine (HG.out _ (HUP.out _ HB3.out)).mono ?_; rintro e w4 ⟨rfl, hb4⟩; have HB4 := Lib.hid (HB3.out.trans (hb4.mono HB3.out.size)); obtain ⟨⟨b0, b1, b2, b3⟩, -⟩ := HCELL.out w4 HB4.out; clear hb4)
      | (go_at_call 6; refine (HC.out _ (HUP.out _ HB4.out)).mono ?_; rintro e w5 ⟨rfl, hb5⟩; have HB5 := Lib.hid (HB4.out.trans (hb5.mono HB4.out.size)); obtain ⟨⟨c0, c1, c2, c3⟩, -⟩ := HCELL.out w5 HB5.out; clear hb5)
      | (go_at_call 7; refine (HK'.out _ (HUP.out _ HB5.out)).mono ?_; rintro e w6 ⟨rfl, hb6⟩; have HB6 := Lib.hid (HB5.out.trans (hb6.mono HB5.out.size)); clear hb6))
    clear a0 a1 a2 a3 b0 b1 b2 b3 c0 c1 c2 c3 hw2
    obtain ⟨⟨i0, i1, i2, i3⟩, i4, i5, i6⟩ := HCELL.out w6 HB6.out
    have up := fun dq os => HUP.out _ (HB6.out.trans ((below_regrown w6 dq os).mono HB6.out.size))
    have K1 := Lib.hid (fun dq os => Calls.regrown_of (HLC.out (grow (redrawn w6 dq) os)))
    have K2 := Lib.hid (fun dq os => Calls.regrown_of (HRI.out (grow (redrawn w6 dq) os)))
    have K3 := Lib.hid (fun dq os => Calls.regrown_of (HLK'.out (grow (redrawn w6 dq) os) (up dq os)))
    have K4 := Lib.hid (fun dq os => Calls.regrown_of (HF.out (grow (redrawn w6 dq) os) (up dq os)))
    have K5 := Lib.hid (fun dq os => Calls.regrown_of (HRF.out (grow (redrawn w6 dq) os) (up dq os)))
    have k0 := cell_regrown i0
    have k1 := cell_regrown i1
    have k2 := cell_regrown i2
    have k3 := cell_regrown i3
    have k4 := cell_regrown i4
    have k5 := cell_regrown i5
    have k6 := cell_regrown i6
    clear up i0 i1 i2 i3 i4 i5 i6 HLC HRI HLK HLK' HF HRF HC HK HA HG HCELL
    cases rg <;>
    · refine wp_region_quiet_below (by kernel_rfl) (by kernel_rfl) ?_
      repeat (quiet_step (first | exact K1.out _ _ | exact K2.out _ _ | exact K3.out _ _ | exact K4.out _ _ | exact K5.out _ _))
      refine wpQuiet_nil ?_
      intro _ hw'
      obtain ⟨⟨dq, osq⟩, hw''⟩ := hw'
      subst hw''
      go_wp2_with fail
      go_ret
      exact ⟨rfl, HUP.out _ (HB6.out.trans ((below_regrown w6 dq osq).mono HB6.out.size))⟩
  · have HLK' : RowKit.Hid (∀ W, Below w.heap.size w W → Calls Tryz.prog 10 #[.agg #[.int .i64 x.k, .int .u64 x.n, .string x.s, .slice A x.l.length cap]] W fun e w' => e = .returned (.int .i64 0) ∧ Below W.heap.size W w') := Lib.hid (fun W hW => by have := HLK.out W hW; rw [if_neg hz] at this; exact this)
    go_enter Tryz.func3, Tryz.ntmps3
    go_wp2_with (first
      | (go_at_call 4; refine (HA.out _).mono ?_; rintro e w3 ⟨rfl, hb3⟩; obtain ⟨⟨a0, a1, a2, a3⟩, -⟩ := HCELL.out w3 hb3; have HB3 := Lib.hid hb3; clear hb3)
      | (go_at_call 5; refine (HG.out _ (HUP.out _ HB3.out)).mono ?_; rintro e w4 ⟨rfl, hb4⟩; have HB4 := Lib.hid (HB3.out.trans (hb4.mono HB3.out.size)); obtain ⟨⟨b0, b1, b2, b3⟩, -⟩ := HCELL.out w4 HB4.out; clear hb4)
      | (go_at_call 6; refine (HC.out _ (HUP.out _ HB4.out)).mono ?_; rintro e w5 ⟨rfl, hb5⟩; have HB5 := Lib.hid (HB4.out.trans (hb5.mono HB4.out.size)); obtain ⟨⟨c0, c1, c2, c3⟩, -⟩ := HCELL.out w5 HB5.out; clear hb5))
    clear a0 a1 a2 a3 b0 b1 b2 b3 c0 c1 c2 c3 hw2
    obtain ⟨⟨i0, i1, i2, i3⟩, i4, i5, i6⟩ := HCELL.out w5 HB5.out
    have up := fun dq os => HUP.out _ (HB5.out.trans ((below_regrown w5 dq os).mono HB5.out.size))
    have K1 := Lib.hid (fun dq os => Calls.regrown_of (HLC.out (grow (redrawn w5 dq) os)))
    have K2 := Lib.hid (fun dq os => Calls.regrown_of (HRI.out (grow (redrawn w5 dq) os)))
    have K3 := Lib.hid (fun dq os => Calls.regrown_of (HLK'.out (grow (redrawn w5 dq) os) (up dq os)))
    have K4 := Lib.hid (fun dq os => Calls.regrown_of (HF.out (grow (redrawn w5 dq) os) (up dq os)))
    have K5 := Lib.hid (fun dq os => Calls.regrown_of (HRF.out (grow (redrawn w5 dq) os) (up dq os)))
    have k0 := cell_regrown i0
    have k1 := cell_regrown i1
    have k2 := cell_regrown i2
    have k3 := cell_regrown i3
    have k4 := cell_regrown i4
    have k5 := cell_regrown i5
    have k6 := cell_regrown i6
    clear up i0 i1 i2 i3 i4 i5 i6 HLC HRI HLK HLK' HF HRF HC HK HA HG HCELL
    cases rg <;>
    · refine wp_region_quiet_below (by kernel_rfl) (by kernel_rfl) ?_
      repeat (quiet_step (first | exact K1.out _ _ | exact K2.out _ _ | exact K3.out _ _ | exact K4.out _ _ | exact K5.out _ _))
      refine wpQuiet_nil ?_
      intro _ hw'
      obtain ⟨⟨dq, osq⟩, hw''⟩ := hw'
      subst hw''
      go_wp2_with fail
      go_ret
      exact ⟨rfl, HUP.out _ (HB5.out.trans ((below_regrown w5 dq osq).mono HB5.out.size))⟩

theorem own : ownKnob Tryz.prog.godebug = none := by kernel_rfl
theorem laidOut : laidOutB Tryz.prog = true := by kernel_rfl
set_option maxRecDepth 100000 in
theorem contract (H : Type) (enc : TypeId × Value → H) (W : World) (base : Nat) (args : Array Value) (ds gs : List (DataW H)) (before : List MemPlace) (hk : Rows.uptoSmall H (ds ++ gs) = true)
    (hval : ∀ (j : Nat) t v, Tryz.f3.params[j]? = some t → args[j]? = some v → Value.okWide Tryz.prog W .any base t v)
    (hW : DataW.Whole enc Tryz.prog Tryz.f3.params.toList Rows.limitFitsSpec.vars false W args.toList ds gs before) :
    Calls Tryz.prog 3 args W fun e W' => ∃ v, e = .returned v ∧ Rows.limitFitsSpec.post enc Tryz.prog Tryz.f3 false true false false W args v W' := by
  have hW' := hW
  obtain ⟨p, q, hA0, hV, hpq, _, _⟩ := hW
  have hA : DataW.TrodAll enc Tryz.prog W 0 (fun _ => true) true Tryz.f3.params.toList args.toList ds p := hA0
  rw [Tryz.params3] at hA hval
  obtain ⟨v0, vs0, d0, ds0, p0, q0, hargs, rfl, rfl, h0, r0⟩ := trodAll_cons hA
  obtain ⟨v1, vs1, d1, ds1, p1, q1, rfl, rfl, rfl, h1, r1⟩ := trodAll_cons r0
  obtain ⟨rfl, rfl, rfl⟩ := trodAll_nil r1
  obtain rfl : args = #[v0, v1] := by cases args; simp_all
  obtain ⟨rfl, rfl⟩ := trodVars_none hV
  have hs : Rows.uptoBulk d0 + (Rows.uptoBulk d1 + 0) ≤ 1048576 := of_decide_eq_true hk
  obtain ⟨x0, A0, c0, rfl, hx0, ho0⟩ := open_item (hval 0 25 v0 rfl rfl) h0
  obtain ⟨a1, b1, e1, rfl⟩ := open_limits (hval 1 27 v1 rfl rfl) h1
  refine (walk x0 A0 c0 a1 b1 e1 W (okI_mono ho0 (by omega)) hx0).mono fun e W' ⟨he, hbl⟩ => ?_
  subst he
  exact ⟨_, rfl, law_post laidOut (by kernel_rfl) rfl (by kernel_rfl) Tryz.underlying4 rfl rfl rfl hW' hbl⟩
set_option maxRecDepth 100000 in
theorem lifted (os : Os) (started : os.Started) (H : Type) (enc : TypeId × Value → H) (F : Stop.Interp) :
    ReturnsInHanded {} Tryz.checked os 3 .any ((Rows.OpenSpec.upto Rows.limitFitsSpec).pre6 enc Tryz.prog Tryz.f3 Rows.limitFitsUptoRow.domain false) (((Rows.OpenSpec.upto Rows.limitFitsSpec).at F).post enc Tryz.prog Tryz.f3 false true false false) := by
  refine returnsInHanded_of_cond (C := Tryz.checked) (s := Rows.OpenSpec.upto Rows.limitFitsSpec) (k := Rows.uptoSmall) rfl own started (by kernel_rfl) Tryz.func3
    (OpenSpec.witness (enc := enc) (C := Tryz.checked) (s := Rows.OpenSpec.upto Rows.limitFitsSpec) (k := Rows.uptoSmall) rfl false ⟨#[], #[.agg #[.int .i64 0, .int .u64 0, .string ⟨#[]⟩, .slice none 0 0], .agg #[.int .i64 0, .int .i64 0, .int .i64 0]], []⟩ 8 (by kernel_rfl) (by kernel_rfl) (by kernel_rfl)
      (x := ([.agg [.lit (.int .i64 0), .lit (.int .u64 0), .lit (.string []), .nil], .agg [.lit (.int .i64 0), .lit (.int .i64 0), .lit (.int .i64 0)]], [], [])) (by kernel_rfl) rfl (by kernel_rfl)) ?_
  intro W base args ds gs before hval hW _ hk _
  exact contract H enc W base args ds gs before hk hval hW
theorem over : Rows.limitFitsUptoRow.holds Tryz.pinned (Rows.OpenSpec.upto Rows.limitFitsSpec) :=
  OpenClaim.holds_of_cond 3 Tryz.f3 rfl rfl rfl rfl rfl rfl rfl ⟨rfl, rfl, rfl, rfl, rfl⟩ rfl rfl rfl rfl rfl (by kernel_rfl) Tryz.func3 (by kernel_rfl)
    (of_decide_eq_true (by kernel_rfl)) (by unfold Func.isWrapper; first | (rw [if_pos (by decide +kernel)]; kernel_rfl) | (rw [if_neg (by decide +kernel)]; exact ⟨rfl, rfl⟩))
    (fun os started H enc _ F => lifted os started H enc F)

/-- The statement. -/
theorem proved : Rows.LimitFitsUptoSaid := over
#print axioms proved
end Go.Proofs.YtgcgidoikpbfpaaGreat.limitFits
