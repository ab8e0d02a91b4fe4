
/- The law ItemSame: behind the two copies. -/
import Derived.Test.YtobolfnokjekcaaItemAA
import Derived.Test.YtobolfnokjekcaaItemW
import Derived.Lib.QuietBelow
namespace Go.Proofs.Ytobolfnokjekcaa.itemSame
open Go.ChangeShapes Go.WideShapes Go.ChangeAt Go.RowKit

def after7 : Code → Option Code
  | .seq (.region 7 _ _) r => some r
  | .seq a b => (after7 a).orElse fun _ => after7 b
  | .cond _ a b => (after7 a).orElse fun _ => after7 b
  | .block _ b => after7 b
  | .loop b => after7 b
  | _ => none
noncomputable def restO : Option Code := Try.f4.body.bind after7
theorem arr94 (T : Array Value) (h : T.size = 94) : T = #[T.getD 0 undef, T.getD 1 undef, T.getD 2 undef, T.getD 3 undef, T.getD 4 undef, T.getD 5 undef, T.getD 6 undef, T.getD 7 undef, T.getD 8 undef, T.getD 9 undef, T.getD 10 undef, T.getD 11 undef, T.getD 12 undef, T.getD 13 undef, T.getD 14 undef, T.getD 15 undef, T.getD 16 undef, T.getD 17 undef, T.getD 18 undef, T.getD 19 undef, T.getD 20 undef, T.getD 21 undef, T.getD 22 undef, T.getD 23 undef, T.getD 24 undef, T.getD 25 undef, T.getD 26 undef, T.getD 27 undef, T.getD 28 undef, T.getD 29 undef, T.getD 30 undef, T.getD 31 undef, T.getD 32 undef, T.getD 33 undef, T.getD 34 undef, T.getD 35 undef, T.getD 36 undef, T.getD 37 undef, T.getD 38 undef, T.getD 39 undef, T.getD 40 undef, T.getD 41 undef, T.getD 42 undef, T.getD 43 undef, T.getD 44 undef, T.getD 45 undef, T.getD 46 undef, T.getD 47 undef, T.getD 48 undef, T.getD 49 undef, T.getD 50 undef, T.getD 51 undef, T.getD 52 undef, T.getD 53 undef, T.getD 54 undef, T.getD 55 undef, T.getD 56 undef, T.getD 57 undef, T.getD 58 undef, T.getD 59 undef, T.getD 60 undef, T.getD 61 undef, T.getD 62 undef, T.getD 63 undef, T.getD 64 undef, T.getD 65 undef, T.getD 66 undef, T.getD 67 undef, T.getD 68 undef, T.getD 69 undef, T.getD 70 undef, T.getD 71 undef, T.getD 72 undef, T.getD 73 undef, T.getD 74 undef, T.getD 75 undef, T.getD 76 undef, T.getD 77 undef, T.getD 78 undef, T.getD 79 undef, T.getD 80 undef, T.getD 81 undef, T.getD 82 undef, T.getD 83 undef, T.getD 84 undef, T.getD 85 undef, T.getD 86 undef, T.getD 87 undef, T.getD 88 undef, T.getD 89 undef, T.getD 90 undef, T.getD 91 undef, T.getD 92 undef, T.getD 93 undef] := by
  have : T = ((List.range 94).map fun i => T.getD i undef).toArray := by
    refine Array.ext (by simp [h]) fun i h1 h2 => ?_
    simp [Array.getD_eq_getD_getElem?, h1]
  exact this
theorem lit94 (T : Array Value) (h : T.size = 94) {p2 p5 p6 : Value} (h2 : T.getD 2 undef = p2) (h5 : T.getD 5 undef = p5) (h6 : T.getD 6 undef = p6) : ∃ t0 t1 t3 t4 t7 t8 t9 t10 t11 t12 t13 t14 t15 t16 t17 t18 t19 t20 t21 t22 t23 t24 t25 t26 t27 t28 t29 t30 t31 t32 t33 t34 t35 t36 t37 t38 t39 t40 t41 t42 t43 t44 t45 t46 t47 t48 t49 t50 t51 t52 t53 t54 t55 t56 t57 t58 t59 t60 t61 t62 t63 t64 t65 t66 t67 t68 t69 t70 t71 t72 t73 t74 t75 t76 t77 t78 t79 t80 t81 t82 t83 t84 t85 t86 t87 t88 t89 t90 t91 t92 t93, T = #[t0, t1, p2, t3, t4, p5, p6, t7, t8, t9, t10, t11, t12, t13, t14, t15, t16, t17, t18, t19, t20, t21, t22, t23, t24, t25, t26, t27, t28, t29, t30, t31, t32, t33, t34, t35, t36, t37, t38, t39, t40, t41, t42, t43, t44, t45, t46, t47, t48, t49, t50, t51, t52, t53, t54, t55, t56, t57, t58, t59, t60, t61, t62, t63, t64, t65, t66, t67, t68, t69, t70, t71, t72, t73, t74, t75, t76, t77, t78, t79, t80, t81, t82, t83, t84, t85, t86, t87, t88, t89, t90, t91, t92, t93] := by
  subst h2 h5 h6
  refine ⟨T.getD 0 undef, T.getD 1 undef, T.getD 3 undef, T.getD 4 undef, T.getD 7 undef, T.getD 8 undef, T.getD 9 undef, T.getD 10 undef, T.getD 11 undef, T.getD 12 undef, T.getD 13 undef, T.getD 14 undef, T.getD 15 undef, T.getD 16 undef, T.getD 17 undef, T.getD 18 undef, T.getD 19 undef, T.getD 20 undef, T.getD 21 undef, T.getD 22 undef, T.getD 23 undef, T.getD 24 undef, T.getD 25 undef, T.getD 26 undef, T.getD 27 undef, T.getD 28 undef, T.getD 29 undef, T.getD 30 undef, T.getD 31 undef, T.getD 32 undef, T.getD 33 undef, T.getD 34 undef, T.getD 35 undef, T.getD 36 undef, T.getD 37 undef, T.getD 38 undef, T.getD 39 undef, T.getD 40 undef, T.getD 41 undef, T.getD 42 undef, T.getD 43 undef, T.getD 44 undef, T.getD 45 undef, T.getD 46 undef, T.getD 47 undef, T.getD 48 undef, T.getD 49 undef, T.getD 50 undef, T.getD 51 undef, T.getD 52 undef, T.getD 53 undef, T.getD 54 undef, T.getD 55 undef, T.getD 56 undef, T.getD 57 undef, T.getD 58 undef, T.getD 59 undef, T.getD 60 undef, T.getD 61 undef, T.getD 62 undef, T.getD 63 undef, T.getD 64 undef, T.getD 65 undef, T.getD 66 undef, T.getD 67 undef, T.getD 68 undef, T.getD 69 undef, T.getD 70 undef, T.getD 71 undef, T.getD 72 undef, T.getD 73 undef, T.getD 74 undef, T.getD 75 undef, T.getD 76 undef, T.getD 77 undef, T.getD 78 undef, T.getD 79 undef, T.getD 80 undef, T.getD 81 undef, T.getD 82 undef, T.getD 83 undef, T.getD 84 undef, T.getD 85 undef, T.getD 86 undef, T.getD 87 undef, T.getD 88 undef, T.getD 89 undef, T.getD 90 undef, T.getD 91 undef, T.getD 92 undef, T.getD 93 undef, ?_⟩
  exact arr94 T h

set_option maxRecDepth 100000 in
set_option maxHeartbeats 4000000 in
theorem rest_ok {c : Code} (hrest : restO = some c) {B N g0 gC gD c0 c1 c3 : Nat} {w w5 W : World} {x : It} {A0 A1 A3 : Option Addr} {T : Array Value} {a : Act} {D1 D3 : Nat → Prop} (hT : T.size = 94) (hT2 : T[2]? = some (.pointer (some ⟨g0, 0, none⟩))) (hN : w5.heap.size = N) (hx0 : Blk w5 g0 25 (vC x A0 c0))
    (hb5 : RowKit.Below B w w5) (hB : w.heap.size = B) (H1 : AtB w B x A0 c0) (hx : x.count ≤ 1048576) (h6 : E6 N B w5 x T a W D1 D3 gC gD A1 c1 A3 c3 (vC x A3 c3)) :
    c.wp Try.prog (bodyPost Try.prog Try.f4 fun e w' => e = .returned (.bool true) ∧ RowKit.Below B w w') a W := by
  have hBN : B ≤ N := by have := hb5.size; omega
  obtain ⟨tmps, defers⟩ := a
  obtain ⟨fr0, fr1, fr2⟩ := h6.fr
  have e2 : tmps.getD 2 undef = .pointer (some ⟨g0, 0, none⟩) := by
    have := fr2 2 (by decide) (by decide) (by decide) (by decide) (by decide) (by decide)
    rw [hT2] at this
    rw [Array.getD_eq_getD_getElem?, this]
    rfl
  obtain ⟨t0, t1, t3, t4, t7, t8, t9, t10, t11, t12, t13, t14, t15, t16, t17, t18, t19, t20, t21, t22, t23, t24, t25, t26, t27, t28, t29, t30, t31, t32, t33, t34, t35, t36, t37, t38, t39, t40, t41, t42, t43, t44, t45, t46, t47, t48, t49, t50, t51, t52, t53, t54, t55, t56, t57, t58, t59, t60, t61, t62, t63, t64, t65, t66, t67, t68, t69, t70, t71, t72, t73, t74, t75, t76, t77, t78, t79, t80, t81, t82, t83, t84, t85, t86, t87, t88, t89, t90, t91, t92, t93, hlit⟩ := lit94 tmps (fr1.trans hT) e2 h6.t5 h6.t6
  simp only at fr0
  subst fr0
  have HN0 : N ≤ W.heap.size := by have := h6.low.size; omega
  have HR := Lib.hid (fun W A c (hb : RowKit.Below B w W) (hv : AtV W x A c) => ref_Same x.count x x A A0 c c0 W (Nat.le_refl _) (by omega) hv (H1.keep hb).toV)
  rw [sameB_refl] at HR
  obtain ⟨M, hI, hMD, hroot⟩ := h6.s1.2.2
  have HE := Lib.hid h6
  have HH5 := Lib.hid hb5
  have HH1 := Lib.hid H1
  have HX0 := Lib.hid hx0
  have HNN := Lib.hid hN
  have HBN := Lib.hid hBN
  have HB0 := Lib.hid hB
  have HW0 : RowKit.Hid (∀ W', RowKit.Below W.heap.size W W' → RowKit.Below N w5 W') := Lib.hid fun W' hb => h6.low.trans (hb.mono HN0)
  have HBW : RowKit.Hid (∀ W', RowKit.Below N w5 W' → RowKit.Below B w W') := Lib.hid fun W' hb => hb5.trans (hb.mono hBN)
  have HV : RowKit.Hid (AtV W x A1 c1) := Lib.hid h6.s1.toV
  have HM : RowKit.Hid ((∀ g l, M g = some l → N ≤ g) ∧ M gC = none ∧ M gD = none ∧ (∀ b, D3 b → M b = none) ∧ ∀ b, b < N → M b = none) := Lib.hid (by
    have hmn : ∀ b, ¬ D1 b → M b = none := fun b hb => by
      cases hq : M b with
      | none => rfl
      | some l => exact absurd (hMD b l hq) hb
    exact ⟨fun g l hg => (h6.d1 g (hMD g l hg)).1, hmn _ h6.gc.2.2.1, hmn _ h6.gd.2.2.1, fun b hb => hmn b fun h => h6.dd b h hb, fun b hb => hmn b fun h => by have := (h6.d1 b h).1; omega⟩)
  have HSH := Lib.hid (Sh.of hI)
  have HROOT := Lib.hid hroot
  obtain ⟨k0, k1, k2, k3, -⟩ := iblk (h6.kC : Blk W gC 25 #[.int .i64 x.k, .int .u64 x.n, .string x.s, .slice A1 x.l.length c1])
  obtain ⟨q0, q1, q2, q3, -⟩ := iblk (hx0.below h6.low (by rw [← hN]; exact hx0.lt) : Blk W g0 25 #[.int .i64 x.k, .int .u64 x.n, .string x.s, .slice A0 x.l.length c0])
  have HC8 := Lib.hid (HR.out W A1 c1 (HBW.out W h6.low) h6.s1.toV)
  have hml : (x.l.length : Int) < 1099511627776 := by
    have := length_le_countL x.l
    rw [It.count_eq] at hx
    omega
  simp only [vI] at HC8 HR
  subst hlit
  clear fr1 fr2 e2 h6 hb5 H1 hx0 hN hBN hI hMD hroot HN0 hx hT hT2 hB
  refine of_some (P := fun c => Code.wp Try.prog c _ _ _) hrest (c' := _) rfl ?_
  obtain ⟨m, hm⟩ : ∃ m, x.l.length = m := ⟨_, rfl⟩
  have HM0 := Lib.hid hm
  simp only [hm] at hml HR HC8 k3 q3
  clear hm
  go_wp2_with (go_at_call 14; refine HC8.out.mono ?_; rintro e w2 ⟨rfl, hb2⟩; have HB2 := Lib.hid hb2; clear hb2)
  have HL : RowKit.Hid (LI N gC w2 w2 M #[.int .i64 x.k, .int .u64 x.n, .string x.s, .slice A1 m c1]) := Lib.hid ⟨RowKit.Below.refl _ _, HSH.out.on HB2.out, by have := HE.out.kC.on HB2.out; unfold vC at this; rw [HM0.out] at this; exact this, fun _ _ => rfl⟩
  clear HC8 k0 k1 k2 k3 q0 q1 q2 q3 HSH
  go_loopw [7] (fun i wr => ∃ k : Nat, k ≤ m ∧ i = .int .i64 (k : Int) ∧ RowKit.Hid (LI N gC w2 wr M #[.int .i64 x.k, .int .u64 x.n, .string x.s, .slice A1 m c1])) (fun i _ => m - (intOf i).toNat)
  case atStart => exact ⟨0, by omega, rfl, HL⟩
  case round =>
    obtain ⟨k, hk, rfl, HI⟩ := hrel
    clear HL
    obtain ⟨-, -, -, z3, -⟩ := iblk HI.out.blk
    by_cases hlt : k < m
    · by_cases h200 : k < 200
      · have hltI : (k : Int) < m := by omega
        have h2I : (k : Int) < 200 := by omega
        have e1 : wrap64 ((k : Int) + 1) = (k : Int) + 1 := by unfold wrap64; omega
        obtain ⟨X, hX⟩ : ∃ X, x.l[k]? = some X := ⟨_, List.getElem?_eq_getElem (by rw [HM0.out]; exact hlt)⟩
        obtain ⟨g, rfl, hg⟩ : ∃ g, A1 = some ⟨g, 0, none⟩ ∧ M g = some x.l := HROOT.out.resolve_left fun e => by
          have := HM0.out
          rw [e] at this
          simp at this
          omega
        obtain ⟨ki, mi, A', cap', x0, x1, x3, f0, f1, hr⟩ := HI.out.item hg hX
        obtain ⟨r, hrr⟩ : ∃ r, X.l.length = r := ⟨_, rfl⟩
        rw [hrr] at x3
        have P1 := Lib.hid (fun z => HI.out.put HM.out.1 hg HM.out.2.1 (j := k * 4 + 1) (u := .int .u64 z) (.inr ⟨by omega, z, rfl⟩))
        have P3 := Lib.hid (fun z => HI.out.keep3 hg (g' := g) (j := k * 4 + 1) (i := k) (u := .int .u64 z) (by omega) x3)
        have HX := Lib.hid hr
        have HG := Lib.hid hg
        have HRR := Lib.hid hrr
        clear hr hg hrr hX
        go_wp2_with fail
        refine gen_world ?_
        intro w3 hw3
        have HI3 : RowKit.Hid (LI N gC w2 w3 M #[.int .i64 x.k, .int .u64 x.n, .string x.s, .slice (some ⟨g, 0, none⟩) m c1]) := by rw [hw3]; exact Lib.hid (P1.out _)
        have HC3 : RowKit.Hid (w3.cell? ⟨g, k * 4 + 3, none⟩ = some (.slice A' r cap')) := by rw [hw3]; exact Lib.hid (P3.out _)
        clear hw3 P1 P3 x0 x1 x3 f0 f1 HI z3
        go_loopw [8] (fun i wi => ∃ k2 : Nat, k2 ≤ r ∧ i = .int .i64 (k2 : Int) ∧ RowKit.Hid (LI N gC w2 wi M #[.int .i64 x.k, .int .u64 x.n, .string x.s, .slice (some ⟨g, 0, none⟩) m c1]) ∧ RowKit.Hid (wi.cell? ⟨g, k * 4 + 3, none⟩ = some (.slice A' r cap'))) (fun i _ => r - (intOf i).toNat)
        case atStart => exact ⟨0, by omega, rfl, HI3, HC3⟩
        case round =>
          clear HI3 HC3
          obtain ⟨k2, hk2, rfl, HJ, HC3⟩ := hrel
          obtain ⟨-, -, -, z3, -⟩ := iblk HJ.out.blk
          have y3 := HC3.out
          by_cases hlt2 : k2 < r
          · by_cases h202 : k2 < 200
            · have hltI2 : (k2 : Int) < r := by omega
              have h2I2 : (k2 : Int) < 200 := by omega
              have e2 : wrap64 ((k2 : Int) + 1) = (k2 : Int) + 1 := by unfold wrap64; omega
              obtain ⟨Y, hY⟩ : ∃ Y, X.l[k2]? = some Y := ⟨_, List.getElem?_eq_getElem (by rw [HRR.out]; exact hlt2)⟩
              obtain ⟨g', rfl, hg'⟩ : ∃ g', A' = some ⟨g', 0, none⟩ ∧ M g' = some X.l := HX.out.resolve_left fun e => by
                have := HRR.out
                rw [e] at this
                simp at this
                omega
              obtain ⟨kj, mj, A'', cap'', d0, d1, d3, f0, f1, -⟩ := HJ.out.item hg' hY
              have Q1 := Lib.hid (HJ.out.put HM.out.1 hg' HM.out.2.1 (j := k2 * 4) (u := .int .i64 77) (.inl ⟨by omega, 77, rfl⟩))
              have Q3 := Lib.hid (HJ.out.keep3 HG.out (g' := g') (j := k2 * 4) (i := k) (u := .int .i64 77) (by omega) HC3.out)
              clear hg' hY
              go_wp2_with fail
              go_roundw
              case rel => exact ⟨k2 + 1, by omega, by simp, Q1, Q3⟩
              case measure => simp [intOf]; omega
            · have hltI2 : (k2 : Int) < r := by omega
              have h2I2 : ¬ (k2 : Int) < 200 := by omega
              go_wp2_with fail
              go_roundw
              case rel => exact ⟨k + 1, by omega, by simp, HJ⟩
              case measure => simp [intOf]; omega
          · have hltI2 : ¬ (k2 : Int) < r := by omega
            go_wp2_with fail
            go_roundw
            case rel => exact ⟨k + 1, by omega, by simp, HJ⟩
            case measure => simp [intOf]; omega
      · have hltI : (k : Int) < m := by omega
        have h2I : ¬ (k : Int) < 200 := by omega
        as_aux_lemma =>
          have hbW := HW0.out w2 HB2.out
          have hbN : RowKit.Below N W wr := (HB2.out.mono (by have := HNN.out; have := HE.out.low.size; omega)).trans HI.out.low
          have KD : Blk wr gD 25 (vC x A3 c3) := (HI.out.far gD HM.out.2.2.1).trans (HE.out.kD.on HB2.out)
          have K0 : Blk wr g0 25 (vC x A0 c0) := HX0.out.below (HE.out.low.trans hbN) (by rw [← HNN.out]; exact HX0.out.lt)
          have S3 : Cs wr B x.l A3 c3 D3 := HE.out.s3.keep (fun b hb => (HI.out.far b (HM.out.2.2.2.1 b hb)).trans (HB2.out.block b (HE.out.d3 b hb).2)) (hbN.mono HBN.out)
          have hbB := HBW.out wr (HE.out.low.trans hbN)
          have HC9 := Lib.hid (HR.out wr A3 c3 hbB S3.toV)
          have HBB := Lib.hid hbB
          unfold vC at KD K0
          rw [HM0.out] at KD K0
          obtain ⟨u0, u1, u2, u3, -⟩ := iblk KD
          obtain ⟨v0, v1, v2, v3, -⟩ := iblk K0
          clear hbW hbN KD K0 S3 hbB
          go_wp2_with (go_at_call 14; refine HC9.out.mono ?_; rintro e w9 ⟨rfl, hb9⟩; have HB9 := Lib.hid hb9; clear hb9)
          go_ret
          exact ⟨rfl, HBB.out.trans (HB9.out.mono (by rw [← HB0.out]; exact HBB.out.size))⟩
    · have hltI : ¬ (k : Int) < m := by omega
      as_aux_lemma =>
        have hbW := HW0.out w2 HB2.out
        have hbN : RowKit.Below N W wr := (HB2.out.mono (by have := HNN.out; have := HE.out.low.size; omega)).trans HI.out.low
        have KD : Blk wr gD 25 (vC x A3 c3) := (HI.out.far gD HM.out.2.2.1).trans (HE.out.kD.on HB2.out)
        have K0 : Blk wr g0 25 (vC x A0 c0) := HX0.out.below (HE.out.low.trans hbN) (by rw [← HNN.out]; exact HX0.out.lt)
        have S3 : Cs wr B x.l A3 c3 D3 := HE.out.s3.keep (fun b hb => (HI.out.far b (HM.out.2.2.2.1 b hb)).trans (HB2.out.block b (HE.out.d3 b hb).2)) (hbN.mono HBN.out)
        have hbB := HBW.out wr (HE.out.low.trans hbN)
        have HC9 := Lib.hid (HR.out wr A3 c3 hbB S3.toV)
        have HBB := Lib.hid hbB
        unfold vC at KD K0
        rw [HM0.out] at KD K0
        obtain ⟨u0, u1, u2, u3, -⟩ := iblk KD
        obtain ⟨v0, v1, v2, v3, -⟩ := iblk K0
        clear hbW hbN KD K0 S3 hbB
        go_wp2_with (go_at_call 14; refine HC9.out.mono ?_; rintro e w9 ⟨rfl, hb9⟩; have HB9 := Lib.hid hb9; clear hb9)
        go_ret
        exact ⟨rfl, HBB.out.trans (HB9.out.mono (by rw [← HB0.out]; exact HBB.out.size))⟩
end Go.Proofs.Ytobolfnokjekcaa.itemSame
