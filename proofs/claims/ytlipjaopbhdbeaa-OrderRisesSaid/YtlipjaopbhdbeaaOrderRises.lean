
/-
  PROVED: the law OrderRises returns true for every slice of strings, and leaves its argument as it was (Rows.OrderRisesSaid). Conditions: none beside the row's own.
-/
import Derived.Test.YtlipjaopbhdbeaaOrdV
import Derived.Test.YtlipjaopbhdbeaaStrs
import Derived.WalkKit
import Derived.ProofKit
import Derived.OpenShut
namespace Go.Proofs.Ytlipjaopbhdbeaa.orderRises
open Go.ChangeShapes Go.WideShapes Go.ChangeAt Go.RowKit

theorem ahead_self (a : List Int) : ahead a a = false := by
  unfold ahead
  rw [seqC_eq.2 rfl]
  rfl
theorem aheads {W : World} {A1 A2 : Option Addr} (u t : ByteArray) (c1 c2 : Nat) (h1 : Rd W W.heap.size .u8 A1 (sbytes u)) (h2 : Rd W W.heap.size .u8 A2 (sbytes t)) :
    (∀ n, Calls Try.prog 22 #[.slice A1 u.size c1, .slice A2 t.size c2] (W.drewN n) fun e w' => e = .returned (.bool (ahead (sbytes u) (sbytes t))) ∧ w' = W.drewN n) ∧
    (∀ n, Calls Try.prog 22 #[.slice A2 t.size c2, .slice A1 u.size c1] (W.drewN n) fun e w' => e = .returned (.bool (ahead (sbytes t) (sbytes u))) ∧ w' = W.drewN n) ∧
    (∀ n, Calls Try.prog 22 #[.slice A1 u.size c1, .slice A1 u.size c1] (W.drewN n) fun e w' => e = .returned (.bool false) ∧ w' = W.drewN n) := by
  rw [← length_sbytes u, ← length_sbytes t]
  refine ⟨fun n => order_Ahead _ _ _ _ _ _ _ (h1.drewN n) (h2.drewN n) (byte_sbytes u) (byte_sbytes t), fun n => order_Ahead _ _ _ _ _ _ _ (h2.drewN n) (h1.drewN n) (byte_sbytes t) (byte_sbytes u), fun n => ?_⟩
  have := order_Ahead (W.drewN n) _ _ c1 c1 _ _ (h1.drewN n) (h1.drewN n) (byte_sbytes u) (byte_sbytes u)
  rw [ahead_self] at this
  exact this
theorem all_more {ss : List ByteArray} {k : Nat} {t : ByteArray} (h : ∀ j, j < k → (ss.getD j ByteArray.empty).size ≤ 100) (ht : ss.getD k ByteArray.empty = t) (hs : t.size ≤ 100) : ∀ j, j < k + 1 → (ss.getD j ByteArray.empty).size ≤ 100 := fun j hj => by
  by_cases e : j = k
  · rw [e, ht]; exact hs
  · exact h j (by omega)
theorem at2 {w wy : World} {bl o j k : Nat} {ss : List ByteArray} {u t : ByteArray} (h : ∀ wy : World, Below w.heap.size w wy → ∀ i, i < ss.length → ∃ b o', some (⟨bl, o, none⟩ : Addr) = some ⟨b, o', none⟩ ∧ b < w.heap.size ∧ wy.cell? ⟨b, o' + i, none⟩ = some (.string (ss.getD i ByteArray.empty)))
    (hy : Below w.heap.size w wy) (hk : k < ss.length) (hj : j < ss.length) (hu : ss.getD j ByteArray.empty = u) (ht : ss.getD k ByteArray.empty = t) : wy.cell? ⟨bl, o + j, none⟩ = some (.string u) ∧ wy.cell? ⟨bl, o + k, none⟩ = some (.string t) := by
  have one : ∀ i, i < ss.length → wy.cell? ⟨bl, o + i, none⟩ = some (.string (ss.getD i ByteArray.empty)) := fun i hi => by
    obtain ⟨b, o', e, _, hc⟩ := h wy hy i hi
    injection e with e
    injection e with e1 e2
    subst e1 e2
    exact hc
  exact ⟨hu ▸ one j hj, ht ▸ one k hk⟩
/-- The place's keys ahead of text number k. -/
def Bk (w0 wr : World) (g p q : Nat) (ss : List ByteArray) (k : Nat) : Prop := ∃ (a : List Int) (e : Bool), Ks wr g p q 100 a [] e ∧ w0.heap.size ≤ g ∧ w0.heap.size ≤ p ∧ w0.heap.size ≤ q ∧ ByteL a ∧ (∀ j, j < k → (ss.getD j ByteArray.empty).size ≤ 100) ∧ (k = 0 → e = false) ∧ (0 < k → e = true ∧ a = sbytes (ss.getD (k - 1) ByteArray.empty)) ∧ Below w0.heap.size w0 wr

set_option maxHeartbeats 2000000 in
set_option maxRecDepth 100000 in
theorem walk (w : World) (A : Option Addr) (cap : Nat) (ss : List ByteArray) (hr : RdS w w.heap.size A ss) :
    Calls Try.prog 5 #[.slice A ss.length cap] w fun e w' => e = .returned (.bool true) ∧ Below w.heap.size w w' := by
  have HA := Lib.hid (order_awake w)
  have HRZ := Lib.hid hr
  clear hr
  go_enter Try.func5, Try.ntmps5
  go_wp2_with fail
  refine HA.out.mono ?_
  rintro e w1 ⟨rfl, S1⟩
  clear HA
  by_cases hs : 60 < ss.length
  · go_wp2_with fail
    go_ret
    exact ⟨rfl, S1⟩
  have S1 := Lib.hid S1
  go_wp2_with fail
  refine (order_New w1 100 100 (by decide)).mono ?_
  rintro e w2 ⟨g, p, q, rfl, hg, hp, hq, K2, S2⟩
  have HB : Hid (Bk w w2 g p q ss 0) := ⟨[], false, K2, Nat.le_trans S1.out.size hg, Nat.le_trans S1.out.size hp, Nat.le_trans S1.out.size hq, (fun x hx => by cases hx), (fun j hj => by omega), (fun _ => rfl), (fun h => by omega), S1.out.trans (S2.mono S1.out.size)⟩
  clear K2 S1 S2 hg hp hq
  go_wp2_with fail
  go_loopw [4] (fun i wr => ∃ k : Nat, k ≤ ss.length ∧ i = .int .i64 k ∧ ∃ p q, Hid (Bk w wr g p q ss k)) (fun i _ => ss.length - (intOf i).toNat)
  case atStart => exact ⟨0, Nat.zero_le _, rfl, p, q, HB⟩
  case round =>
    clear HB
    obtain ⟨k, hk, rfl, p, q, HB⟩ := hrel
    by_cases hlt : k < ss.length
    · have hB1 : Below w.heap.size w wr := by
        obtain ⟨a, e, _, _, _, _, _, _, _, _, h⟩ := HB.out
        exact h
      obtain ⟨bl, o, rfl, hbb, hcell⟩ := (HRZ.out.below hB1).get hlt
      have HLK := Lib.hid (fun (wy : World) (hy : Below w.heap.size w wy) (i : Nat) (hi : i < ss.length) => (HRZ.out.below hy).get hi)
      have HS := Lib.hid (show ss.getD k ByteArray.empty = ss.getD k ByteArray.empty from rfl)
      generalize hst : ss.getD k ByteArray.empty = t at hcell HS
      by_cases h1 : 100 < t.size
      · have HBW := Lib.hid hB1
        clear hB1
        go_wp2_with fail
        go_ret
        exact ⟨rfl, HBW.out⟩
      have HST := Lib.hid hst
      have HLT := Lib.hid (length_sbytes t)
      have HBT := Lib.hid (byte_sbytes t)
      clear hB1 hst
      go_wp2_with fail
      obtain ⟨a, e, hK, hg, hp, hq, ba, hall, h0, h1', hbl⟩ := HB.out
      have HK := Lib.hid hK
      have HN := Lib.hid (And.intro hg (And.intro hp hq))
      have HBA := Lib.hid ba
      have HAL := Lib.hid hall
      have HE0 := Lib.hid h0
      have HE1 := Lib.hid h1'
      have HBW := Lib.hid hbl
      clear hK hg hp hq ba hall h0 h1' hbl HB
      go_loopw [5] (fun j wv => ∃ n : Nat, n ≤ t.size ∧ j = .int .i64 n ∧ Hid (Ks wv g p q 100 a ((sbytes t).take n) e) ∧ Hid (Below w.heap.size w wv)) (fun j _ => t.size - (intOf j).toNat)
      case atStart => exact ⟨0, Nat.zero_le _, rfl, HK, HBW⟩
      case round =>
        clear HK HBW
        rename_i HK0 HBW0
        obtain ⟨n, hn, rfl, HK, HBW⟩ := hrel
        obtain ⟨bl5, o5, e5, _, hcell⟩ := HLK.out _ HBW.out k hlt
        injection e5 with e5
        injection e5 with e51 e52
        subst e51
        subst e52
        rw [HST.out] at hcell
        by_cases hnt : n < t.size
        · have hx := run_sb (P := Try.prog) Try.underlying9 wr t n hnt n rfl
          have HC := Lib.hid (order_Byte wr g p q 100 a ((sbytes t).take n) e (sb t n) HK.out (by rw [List.length_take, HLT.out]; omega))
          rw [show (sbytes t).take n ++ [sb t n] = (sbytes t).take (n + 1) from (take_snoc (sbytes t) n (by rw [HLT.out]; exact hnt)).symm] at HC
          generalize sb t n = c at *
          clear HRZ HLK
          go_wp2_with fail
          refine HC.out.mono ?_
          rintro e5 w5 ⟨rfl, K5, T5⟩
          have HK := Lib.hid K5
          have HBW := Lib.hid (HBW.out.trans (T5.below HBW.out.size HN.out.1 HN.out.2.1 HN.out.2.2))
          clear K5 T5 HC
          go_wp2_with fail
          go_roundw
          case rel => exact ⟨n + 1, by omega, by go_num, HK, HBW⟩
          case measure => simp [intOf]; omega
        · have hnn : n = t.size := by omega
          subst hnn
          have hl' : (sbytes t).take t.size = sbytes t := List.take_of_length_le (by rw [HLT.out]; exact Nat.le_refl _)
          rw [hl'] at HK
          by_cases hk0 : k = 0
          · subst hk0
            obtain rfl := HE0.out rfl
            simp only [Nat.add_zero] at hcell
            go_wp2_with fail
            go_quiet (fail)
            go_wp2_with fail
            refine (order_End _ g p q 100 a (sbytes t) false (HK.out.on (below_drawnN (Below.refl _ _) _)) HBA.out HBT.out).mono ?_
            rintro e5 w5 ⟨rfl, K5, T5⟩
            have HB5 : Hid (Bk w w5 g q p ss 1) := ⟨sbytes t, true, K5, HN.out.1, HN.out.2.2, HN.out.2.1, HBT.out, (fun j hj => by (obtain rfl : j = 0 := by omega); rw [HST.out]; omega), (fun h => by cases h), (fun _ => ⟨rfl, by rw [Nat.sub_self, HST.out]⟩), (below_drawnN HBW.out _).trans (T5.below (by exact HBW.out.size) HN.out.1 HN.out.2.1 HN.out.2.2)⟩
            clear K5 T5 HK HBW HLK HRZ
            rw [show (!false || ahead a (sbytes t)) = true from rfl]
            go_wp2_with fail
            go_roundw
            case rel => exact ⟨1, by omega, by go_num, q, p, HB5⟩
            case measure => simp [intOf]; omega
          · obtain ⟨j, rfl⟩ : ∃ j, k = j + 1 := ⟨k - 1, by omega⟩
            obtain ⟨rfl, ha⟩ := HE1.out (by omega)
            rw [Nat.add_sub_cancel] at ha
            obtain ⟨bl5, o5, e5, _, hcellj⟩ := HLK.out _ HBW.out j (by omega)
            injection e5 with e5
            injection e5 with e51 e52
            subst e51
            subst e52
            have hsj := HAL.out j (by omega)
            have HJ := Lib.hid (show ss.getD j ByteArray.empty = ss.getD j ByteArray.empty from rfl)
            generalize hu : ss.getD j ByteArray.empty = u at *
            subst ha
            have HU := Lib.hid hu
            have HLS := Lib.hid (ref_Less u t (by omega) (by omega))
            clear hu hk0 HE0 HE1
            obtain ⟨k, hkj, hki⟩ : ∃ k : Nat, j + 1 = k ∧ (k : Int) = (j : Int) + 1 := ⟨_, rfl, by omega⟩
            rw [hkj] at hcell HST HAL hk hlt ⊢
            have W1 : IntKind.i64.wrap ((k : Int) - 1) = (j : Int) := by rw [IntKind.wrap_i64]; omega
            have HKI := Lib.hid hki
            have hkz : ((k : Int) == 0) = false := by rw [beq_eq_false_iff_ne]; omega
            have hjl : (j : Int) < ss.length := by omega
            have hjl' : j < ss.length := by omega
            clear hki hkj
            go_wp2_with fail
            go_quiet ((with_reducible exact Calls.quiet_of (HLS.out _)))
            have K4 := Lib.hid (HK.out.on (below_drawnN (Below.refl wr.heap.size wr) nq))
            have HBW := Lib.hid (below_drawnN HBW.out nq)
            clear HLS HK hcell hcellj
            generalize wr.drewN nq = wn at *
            have HX := Lib.hid (order_End wn g p q 100 (sbytes u) (sbytes t) true K4.out HBA.out HBT.out)
            have HL2 := Lib.hid (ref_Less t u (by omega) (by omega))
            have HAA := Lib.hid (fun (W : World) (A1 A2 : Option Addr) (c1 c2 : Nat) (h1 : Rd W W.heap.size .u8 A1 (sbytes u)) (h2 : Rd W W.heap.size .u8 A2 (sbytes t)) => aheads u t c1 c2 h1 h2)
            rw [show (!true || ahead (sbytes u) (sbytes t)) = ahead (sbytes u) (sbytes t) from rfl] at HX
            have hkp : 0 < k := by have := HKI.out; omega
            have hkq : (0 : Int) < (k : Int) := by omega
            generalize ahead (sbytes u) (sbytes t) = r1 at *
            generalize ahead (sbytes t) (sbytes u) = r2 at *
            cases r1 <;> cases r2
            all_goals
              go_wp2_with fail
              refine HX.out.mono ?_
              rintro e5 w5 ⟨rfl, K5, T5⟩
              have K5 := Lib.hid K5
              have HB5 := Lib.hid (HBW.out.trans (T5.below HBW.out.size HN.out.1 HN.out.2.1 HN.out.2.2))
              clear K4 HX T5
              have HB6 : Hid (Below w.heap.size w w5.drew) := below_drawn HB5.out
              obtain ⟨c1, wa, ra, rda, ba, sa⟩ := run_bytes (P := Try.prog) w5.drew u Try.underlying9 Try.underlying28 Try.underlying5
              obtain ⟨c2, wb, rb, rdb, bb, sb⟩ := run_bytes (P := Try.prog) wa t Try.underlying9 Try.underlying28 Try.underlying5
              obtain ⟨d1, wc, rc, rdc, bc, sc⟩ := run_bytes (P := Try.prog) w5.drew t Try.underlying9 Try.underlying28 Try.underlying5
              obtain ⟨d2, wd, rd, rdd, bd, sd⟩ := run_bytes (P := Try.prog) wc u Try.underlying9 Try.underlying28 Try.underlying5
              have HBa := Lib.hid (HB6.out.trans (ba.mono HB6.out.size))
              have HBc := Lib.hid (HB6.out.trans (bc.mono HB6.out.size))
              have HBb := Lib.hid (HBa.out.trans (bb.mono HBa.out.size))
              have HBd := Lib.hid (HBc.out.trans (bd.mono HBc.out.size))
              have HKb := Lib.hid (((K5.out.on (w' := w5.drew) (below_drawn (Below.refl _ _))).on ba).on bb)
              have HKd := Lib.hid (((K5.out.on (w' := w5.drew) (below_drawn (Below.refl _ _))).on bc).on bd)
              have HAb := Lib.hid (HAA.out wb _ _ c1 c2 (rda.on bb) rdb)
              have HAd := Lib.hid (HAA.out wd _ _ d2 d1 rdd (rdc.on bd))
              have g5 := at2 HLK.out HB5.out hlt hjl' HU.out HST.out
              have g6 := at2 HLK.out HB6.out hlt hjl' HU.out HST.out
              have ga := at2 HLK.out HBa.out hlt hjl' HU.out HST.out
              have gb := at2 HLK.out HBb.out hlt hjl' HU.out HST.out
              have gc := at2 HLK.out HBc.out hlt hjl' HU.out HST.out
              have gd := at2 HLK.out HBd.out hlt hjl' HU.out HST.out
              obtain ⟨g51, g52⟩ := g5
              obtain ⟨g61, g62⟩ := g6
              obtain ⟨ga1, ga2⟩ := ga
              obtain ⟨gb1, gb2⟩ := gb
              obtain ⟨gc1, gc2⟩ := gc
              obtain ⟨gd1, gd2⟩ := gd
              rw [show w5.drew.heap.size = w5.heap.size from rfl] at HAb HAd ra rc
              clear rda ba sa rdb bb sb rdc bc sc rdd bd sd HLK HRZ HAA HBW
              go_wp2_with fail
              go_region
              · go_wp2_with fail
                go_quiet (first | (with_reducible exact Calls.quiet_of_same (HAb.out.1 _)) | (with_reducible exact Calls.quiet_of_same (HAb.out.2.1 _)) | (with_reducible exact Calls.quiet_of_same (HAb.out.2.2 _)) | (with_reducible exact Calls.quiet_of (HL2.out _)))
                go_wp2_with fail
                go_roundw
                case rel => exact ⟨k + 1, by omega, by go_num, q, p, Lib.hid ⟨sbytes t, true, HKb.out.on (below_drawnN (Below.refl _ _) _), HN.out.1, HN.out.2.2, HN.out.2.1, HBT.out, all_more HAL.out HST.out (by omega), (fun h => by omega), (fun _ => ⟨rfl, by rw [Nat.add_sub_cancel, HST.out]⟩), below_drawnN HBb.out _⟩⟩
                case measure => have := HKI.out; simp [intOf]; omega
              · go_wp2_with fail
                go_quiet (first | (with_reducible exact Calls.quiet_of_same (HAd.out.1 _)) | (with_reducible exact Calls.quiet_of_same (HAd.out.2.1 _)) | (with_reducible exact Calls.quiet_of_same (HAd.out.2.2 _)) | (with_reducible exact Calls.quiet_of (HL2.out _)))
                go_wp2_with fail
                go_roundw
                case rel => exact ⟨k + 1, by omega, by go_num, q, p, Lib.hid ⟨sbytes t, true, HKd.out.on (below_drawnN (Below.refl _ _) _), HN.out.1, HN.out.2.2, HN.out.2.1, HBT.out, all_more HAL.out HST.out (by omega), (fun h => by omega), (fun _ => ⟨rfl, by rw [Nat.add_sub_cancel, HST.out]⟩), below_drawnN HBd.out _⟩⟩
                case measure => have := HKI.out; simp [intOf]; omega
    · have HBW : Hid (Below w.heap.size w wr) := by
        obtain ⟨a, e, _, _, _, _, _, _, _, _, h⟩ := HB.out
        exact h
      clear HB HRZ
      go_wp2_with fail
      refine (order_Reset_nil _).mono ?_
      rintro e5 w5 ⟨rfl, rfl⟩
      go_wp2_with fail
      refine (order_Byte_nil _ _).mono ?_
      rintro e5 w6 ⟨rfl, S6⟩
      have HBW := Lib.hid (HBW.out.trans (S6.mono HBW.out.size))
      clear S6
      go_wp2_with (first
        | (go_at_call 17; with_reducible refine (order_End_nil _).mono ?_; rintro e w' ⟨rfl, rfl⟩)
        | (go_at_call 20; with_reducible refine (order_Len_nil _).mono ?_; rintro e w' ⟨rfl, rfl⟩)
        | (go_at_call 14; with_reducible refine (order_Cap_nil _).mono ?_; rintro e w' ⟨rfl, rfl⟩))
      go_ret
      exact ⟨rfl, HBW.out⟩

theorem own : ownKnob Try.prog.godebug = none := by kernel_rfl
theorem laidOut : laidOutB Try.prog = true := by kernel_rfl
set_option maxRecDepth 100000 in
theorem lifted (os : Os) (started : os.Started) (H : Type) (enc : TypeId × Value → H) :
    ReturnsInHanded {} Try.checked os 5 .any (Rows.orderRisesSpec.pre6 enc Try.prog Try.f5 Rows.orderRisesRow.domain false) (Rows.orderRisesSpec.post enc Try.prog Try.f5 false true false false) := by
  refine returnsInHanded_of_change (C := Try.checked) own started (by kernel_rfl) Try.func5
    (ChangeSpec.witness6 (enc := enc) (C := Try.checked) false ⟨#[], #[.slice none 0 0], []⟩ 8 (by kernel_rfl) (by kernel_rfl) (by kernel_rfl) (by kernel_rfl)) ?_
  intro W base args ds gs before hval0 hW _ _
  have hval : ∀ (j : Nat) t v, Try.f5.params[j]? = some t → args[j]? = some v → Value.okWide Try.prog W .any base t v := hval0
  have hlt := hW.lt
  have hW' := hW
  obtain ⟨p, q, hA0, hV, hpq, _, _⟩ := hW
  have hA : DataW.TrodAll enc Try.prog W 0 (fun _ => true) true Try.f5.params.toList args.toList ds p := hA0
  rw [Try.params5] at hA hval
  obtain ⟨v0, vs0, d0, ds0, p0, q0, hargs, rfl, rfl, h0, r0⟩ := trodAll_cons hA
  obtain ⟨rfl, rfl, rfl⟩ := trodAll_nil r0
  obtain rfl : args = #[v0] := by cases args; simp_all
  obtain ⟨rfl, rfl⟩ := trodVars_none hV
  obtain ⟨A0, cap0, ss0, rfl, hl0, hr0, _⟩ := open_texts Try.underlying45 Try.underlying9 (by kernel_rfl) (hval 0 45 v0 rfl rfl) h0 (fun x hx => hlt x (by rw [hpq]; simp [hx]))
  refine (walk W A0 cap0 ss0 hr0).mono fun e W' ⟨he, hbl⟩ => ?_
  subst he
  exact ⟨_, rfl, law_post laidOut (by kernel_rfl) rfl (by kernel_rfl) Try.underlying4 rfl rfl rfl hW' hbl⟩

theorem over : Rows.orderRisesRow.holds Try.pinned (OpenSpec.ofChange Rows.orderRisesSpec) :=
  OpenClaim.holds_of_wide 5 Try.f5 rfl rfl rfl rfl rfl rfl rfl ⟨rfl, rfl, rfl, rfl, rfl⟩ rfl rfl rfl rfl rfl (by kernel_rfl) Try.func5 (by kernel_rfl)
    (of_decide_eq_true (by kernel_rfl)) (by unfold Func.isWrapper; first | (rw [if_pos (by decide +kernel)]; kernel_rfl) | (rw [if_neg (by decide +kernel)]; exact ⟨rfl, rfl⟩))
    (fun os started H enc _ => lifted os started H enc)

/-- The statement. -/
theorem proved : Rows.OrderRisesSaid := over
#print axioms proved
end Go.Proofs.Ytlipjaopbhdbeaa.orderRises

