/-
  PROVED: the law CandSets returns true for every two lists of numbers, number and bound (Rows.CandSetsSaid). Conditions: none.
-/
import Derived.Test.YtmihoeholcaokaaKBK
import Derived.Test.YtmihoeholcaokaaKAC
import Derived.Test.YtmihoeholcaokaaRows
import Derived.Test.YtmihoeholcaokaaKBC
import Derived.Lib.QuietBelowIn
import Derived.Sort.BigQuietIn
import Derived.WalkKit
import Derived.ProofKit
import Derived.OpenShut
namespace Go.Proofs.Ytmihoeholcaokaa.candSets
open Go.ChangeShapes Go.WideShapes Go.ChangeAt Go.RowKit Go.Shelf Go.Sort
attribute [local go_sem] Oper.semAt_some

set_option maxRecDepth 100000 in
theorem run_func_nil (b : Nat) (W : World) : Sem.run Try.prog (binOp .eql 33 (.func (.func 13) #[] #[.pointer (some ⟨b, 0, none⟩)]) .nilFunc) W = .ok (.bool false) W := by
  rfl
theorem make256 (w : World) : (Instr.makeSlice 24 (.int .i64 256) (.int .i64 256)).run Try.prog w = .ok (.slice (some ⟨w.heap.size, 0, none⟩) 256 256) (w.alloc (.cells (Array.replicate 256 (.bool false)) 4)) := by kernel_rfl
def kB : List Bool := [false, false, false, false, false, false, false, false, false, true, true, false, false, false, false, false, false, false, false, false, false, false, false, false, false, false, false, false, false, false, false, false, true, true, false, false, false, false, false, false, false, false, false, false, false, false, false, false, false, false, false, false, false, false, false, false, false, false, false, false, false, false, false, false, false, false, false, false, false, false, false, false, false, false, false, false, false, false, false, false, false, false, false, false, false, false, false, false, false, false, false, false, false, false, false, false, false, false, false, false, false, false, false, false, false, false, false, false, false, false, false, false, false, false, false, false, false, false, false, false, false, false, false, false, false, false, false, false, false, false, false, false, false, false, false, false, false, false, false, false, false, false, false, false, false, false, false, false, false, false, false, false, false, false, false, false, false, false, false, false, false, false, false, false, false, false, false, false, false, false, false, false, false, false, false, false, false, false, false, false, false, false, false, false, false, false, false, false, false, false, false, false, false, false, false, false, false, false, false, false, false, false, false, false, false, false, false, false, false, false, false, false, false, false, false, false, false, false, false, false, false, false, false, false, false, false, false, false, false, false, false, false, false, false, false, false]
set_option maxRecDepth 100000 in
set_option maxHeartbeats 16000000 in
theorem walk (w : World) (A0 : Option Addr) (cap0 : Nat) (zs0 : List Int) (_hcap0 : zs0.length ≤ cap0) (hr0 : Rd w w.heap.size .i64 A0 zs0) (A1 : Option Addr) (cap1 : Nat) (zs1 : List Int) (_hcap1 : zs1.length ≤ cap1) (hr1 : Rd w w.heap.size .i64 A1 zs1) (n : Int) (hn : -9223372036854775808 ≤ n ∧ n ≤ 9223372036854775807) (few : Int) (hfew : 0 ≤ few ∧ few ≤ 255) :
    Calls Try.prog 3 #[.slice A0 zs0.length cap0, .slice A1 zs1.length cap1, .int .i64 n, .int .u8 few] w fun e w' => e = .returned (.bool true) ∧ Below w.heap.size w w' := by
  obtain ⟨w1, hw1, b1, S1⟩ := iblk1 w 5 #[.int .u8 few]
  obtain ⟨w2, hw2, b2, S2⟩ := iblk1 w1 4 #[.bool false]
  have e1 : w1.heap.size = w.heap.size + 1 := by rw [← hw1]; simp
  rw [e1] at b2
  have S := S1.trans (S2.mono S1.size)
  have HAW := Lib.hid (cand_awake w2)
  have HB1 := Lib.hid (b1.on S2)
  have HB2 := Lib.hid b2
  have HS := Lib.hid S
  have HZ2 := Lib.hid (show w2.heap.size = w.heap.size + 2 by rw [← hw2]; simp [e1])
  obtain ⟨m0, hm0⟩ : ∃ m0, zs0.length = m0 := ⟨_, rfl⟩
  obtain ⟨m1, hm1⟩ : ∃ m1, zs1.length = m1 := ⟨_, rfl⟩
  have HM0 := Lib.hid hm0
  have HM1 := Lib.hid hm1
  have HR0 := Lib.hid (fun W (h : Below w.heap.size w W) => hr0.on h)
  have HR1 := Lib.hid (fun W (h : Below w.heap.size w W) => hr1.on h)
  rw [hm0, hm1]
  clear b1 b2 S S1 S2 hm0 hm1 hr0 hr1 _hcap0 _hcap1
  refine (callsIn_wide (n := 0)).1 ?_
  refine callsIn_of_wp_marks Try.func3 rfl trivial ?_ rfl
  simp only [Try.ntmps3, List.size_toArray, List.length_cons, List.length_nil, Nat.reduceAdd, Nat.reduceSub, Array.replicate_succ, Array.replicate_zero, List.push_toArray, List.append_toArray, List.nil_append, List.cons_append]
  have AWK : Try.prog.follows Departure.mixedOrders = true := by kernel_rfl
  by_cases h0 : m0 ≤ 600
  · by_cases h1 : m1 ≤ 600
    · have q0 : (m0 : Int) ≤ 600 := by omega
      have q1 : (m1 : Int) ≤ 600 := by omega
      clear h0 h1
      gi_wp2_with (first
        | (refine ⟨trivial, rfl, ?_⟩; gi_at_call 4; refine (callsIn_wide.2 HAW.out).mono ?_; rintro e w3 ⟨rfl, hb3⟩; have HS3 := Lib.hid (HS.out.trans (hb3.mono HS.out.size)); have HB13 := Lib.hid (HB1.out.on hb3); have HB23 := Lib.hid (HB2.out.on hb3); have d3 := sblk HB23.out; have f3 := HB23.out.free 0; have HS3' := Lib.hid (show Below w2.heap.size w2 w3 from hb3); clear hb3)
        | fail)
      refine wpIn_cut_mask kB (fun t W => ∃ gx gy, t 9 = .slice (some ⟨gx, 0, none⟩) 256 256 ∧ t 10 = .slice (some ⟨gy, 0, none⟩) 256 256 ∧ BF W gx (fun _ => false) ∧ BF W gy (fun _ => false) ∧ gx ≠ gy ∧ w3.heap.size ≤ gx ∧ w3.heap.size ≤ gy ∧ Below w3.heap.size w3 W) (fun K' HK' => ?_) ?_
      · have hmk := fun W => make256 W
        gi_region
        all_goals
          obtain ⟨r1, r2, r3⟩ := two_made w3
          first
            | exact HK'.out _ _ rfl ⟨_, _, rfl, rfl, r1, r2, by omega, Nat.le_refl _, Nat.le_succ _, r3⟩
            | exact HK'.out _ _ rfl ⟨_, _, rfl, rfl, r2, r1, by omega, Nat.le_succ _, Nat.le_refl _, r3⟩
      · intro t W4 hR
        obtain ⟨gx, gy, e9, e10, kx, ky, hne, hgx, hgy, kS⟩ := hR
        dsimp only [mask, kB, Nat.reduceAdd]
        rw [e9, e10]
        generalize t 32 = t32
        generalize t 33 = t33
        have HNEG := Lib.hid (show gx ≠ gy ∧ gy ≠ gx from ⟨hne, Ne.symm hne⟩)
        have HGEX := Lib.hid (show w.heap.size + 2 ≤ gx ∧ w.heap.size + 2 ≤ gy by have := HZ2.out; have := HS3'.out.size; omega)
        have HBS := Lib.hid kx
        have HBO := Lib.hid ky
        have HBF := Lib.hid (HB13.out.on kS)
        have HBR := Lib.hid (HB23.out.on kS)
        have HSW := Lib.hid (HS3.out.trans (kS.mono HS3.out.size))
        clear e9 e10 kx ky hne hgx hgy kS d3 f3 HB13 HB23 HS3 HS3' HS HB1 HB2 HAW hw1 hw2 e1
        gi_wp2_with fail
        gi_loopg [11] (m0) (fun gk iv wr => ∃ k : Nat, k ≤ m0 ∧ iv = .int .i64 (k : Int) ∧ RowKit.Hid (m0 - k = gk) ∧ RowKit.Hid (BF wr gx (inM (zs0.take k))) ∧ RowKit.Hid (BF wr gy (fun _ => false)) ∧ RowKit.Hid (Blk wr w.heap.size 5 #[.int .u8 few]) ∧ RowKit.Hid (Blk wr (w.heap.size + 1) 4 #[.bool false]) ∧ RowKit.Hid (Below w.heap.size w wr))
        case atStart => exact ⟨0, by omega, rfl, Lib.hid rfl, Lib.hid (HBS.out.congr fun j _ => by simp [inM]), HBO, HBF, HBR, HSW⟩
        case round =>
          clear HBS HBO HBF HBR HSW
          obtain ⟨k, hk, rfl, HZ, HBS, HBO, HBF, HBR, HSW⟩ := hrel
          by_cases hlt : k < m0
          · obtain ⟨b, o, rfl, -, hc⟩ := (HR0.out wr HSW.out).get (i := k) (by rw [HM0.out]; exact hlt)
            have HF := Lib.hid (fun j => inM_step zs0 (k := k) (by rw [HM0.out]; exact hlt) j)
            generalize zs0.getD k 0 = c at *
            by_cases h0 : 0 ≤ c
            · by_cases h1 : c < 256
              · obtain ⟨i, hi⟩ : ∃ i : Nat, c = i := ⟨c.toNat, by omega⟩
                subst hi
                have hi : i < 256 := by omega
                have x0 := HBS.out.cell hi
                have x1 := HBS.out.free i
                have hb := HBS.out.put (f' := inM (zs0.take (k + 1))) hi (fun j hj => by rw [HF.out]; congr 1; by_cases e : j = i <;> simp [e]; omega)
                have HP := Lib.hid hb
                have HNE := HNEG.out
                have HGE := HGEX.out
                have HO := Lib.hid (HBO.out.far (p := ⟨gx, i, none⟩) (by show gy ≠ gx; omega) (.bool true))
                have H1 := Lib.hid (HBF.out.far (p := ⟨gx, i, none⟩) (by show w.heap.size ≠ gx; omega) (.bool true))
                have H2 := Lib.hid (HBR.out.far (p := ⟨gx, i, none⟩) (by show w.heap.size + 1 ≠ gx; omega) (.bool true))
                have H3 := Lib.hid (HSW.out.setCell (p := ⟨gx, i, none⟩) (by show w.heap.size ≤ gx; omega) (.bool true))
                clear hb HNE HGE HF
                gi_wp2_with fail
                gi_roundg (m0 - (k + 1))
                case rel => exact ⟨k + 1, by omega, by go_num, Lib.hid rfl, HP, HO, H1, H2, H3⟩
                case measure => rw [← HZ.out]; omega
              · have HC := Lib.hid (HBS.out.congr (f' := inM (zs0.take (k + 1))) (fun j hj => by rw [HF.out, decide_eq_false (by omega), Bool.or_false]))
                gi_wp2_with fail
                gi_roundg (m0 - (k + 1))
                case rel => exact ⟨k + 1, by omega, by go_num, Lib.hid rfl, HC, HBO, HBF, HBR, HSW⟩
                case measure => rw [← HZ.out]; omega
            · have HC := Lib.hid (HBS.out.congr (f' := inM (zs0.take (k + 1))) (fun j hj => by rw [HF.out, decide_eq_false (by omega), Bool.or_false]))
              gi_wp2_with fail
              gi_roundg (m0 - (k + 1))
              case rel => exact ⟨k + 1, by omega, by go_num, Lib.hid rfl, HC, HBO, HBF, HBR, HSW⟩
              case measure => rw [← HZ.out]; omega
          · have HD : RowKit.Hid (BF wr gx (inM zs0)) := Lib.hid (by
              have e := HBS.out
              rwa [List.take_of_length_le (by rw [HM0.out]; omega)] at e)
            clear HBS HZ
            have HBS2 := Lib.hid HBO.out
            have HBO2 := Lib.hid HD.out
            clear HBO HD
            have HBS := HBS2
            have HBO := HBO2
            clear HBS2 HBO2
            generalize wr = wq at *
            gi_wp2_with fail
            gi_loopg [12] (m1) (fun gk iv wr => ∃ k : Nat, k ≤ m1 ∧ iv = .int .i64 (k : Int) ∧ RowKit.Hid (m1 - k = gk) ∧ RowKit.Hid (BF wr gy (inM (zs1.take k))) ∧ RowKit.Hid (BF wr gx (inM zs0)) ∧ RowKit.Hid (Blk wr w.heap.size 5 #[.int .u8 few]) ∧ RowKit.Hid (Blk wr (w.heap.size + 1) 4 #[.bool false]) ∧ RowKit.Hid (Below w.heap.size w wr))
            case atStart => exact ⟨0, by omega, rfl, Lib.hid rfl, Lib.hid (HBS.out.congr fun j _ => by simp [inM]), HBO, HBF, HBR, HSW⟩
            case round =>
              clear HBS HBO HBF HBR HSW
              obtain ⟨k, hk, rfl, HZ, HBS, HBO, HBF, HBR, HSW⟩ := hrel
              by_cases hlt : k < m1
              · obtain ⟨b, o, rfl, -, hc⟩ := (HR1.out wr HSW.out).get (i := k) (by rw [HM1.out]; exact hlt)
                have HF := Lib.hid (fun j => inM_step zs1 (k := k) (by rw [HM1.out]; exact hlt) j)
                generalize zs1.getD k 0 = c at *
                by_cases h0 : 0 ≤ c
                · by_cases h1 : c < 256
                  · obtain ⟨i, hi⟩ : ∃ i : Nat, c = i := ⟨c.toNat, by omega⟩
                    subst hi
                    have hi : i < 256 := by omega
                    have x0 := HBS.out.cell hi
                    have x1 := HBS.out.free i
                    have hb := HBS.out.put (f' := inM (zs1.take (k + 1))) hi (fun j hj => by rw [HF.out]; congr 1; by_cases e : j = i <;> simp [e]; omega)
                    have HP := Lib.hid hb
                    have HNE := HNEG.out
                    have HGE := HGEX.out
                    have HO := Lib.hid (HBO.out.far (p := ⟨gy, i, none⟩) (by show gx ≠ gy; omega) (.bool true))
                    have H1 := Lib.hid (HBF.out.far (p := ⟨gy, i, none⟩) (by show w.heap.size ≠ gy; omega) (.bool true))
                    have H2 := Lib.hid (HBR.out.far (p := ⟨gy, i, none⟩) (by show w.heap.size + 1 ≠ gy; omega) (.bool true))
                    have H3 := Lib.hid (HSW.out.setCell (p := ⟨gy, i, none⟩) (by show w.heap.size ≤ gy; omega) (.bool true))
                    clear hb HNE HGE HF
                    gi_wp2_with fail
                    gi_roundg (m1 - (k + 1))
                    case rel => exact ⟨k + 1, by omega, by go_num, Lib.hid rfl, HP, HO, H1, H2, H3⟩
                    case measure => rw [← HZ.out]; omega
                  · have HC := Lib.hid (HBS.out.congr (f' := inM (zs1.take (k + 1))) (fun j hj => by rw [HF.out, decide_eq_false (by omega), Bool.or_false]))
                    gi_wp2_with fail
                    gi_roundg (m1 - (k + 1))
                    case rel => exact ⟨k + 1, by omega, by go_num, Lib.hid rfl, HC, HBO, HBF, HBR, HSW⟩
                    case measure => rw [← HZ.out]; omega
                · have HC := Lib.hid (HBS.out.congr (f' := inM (zs1.take (k + 1))) (fun j hj => by rw [HF.out, decide_eq_false (by omega), Bool.or_false]))
                  gi_wp2_with fail
                  gi_roundg (m1 - (k + 1))
                  case rel => exact ⟨k + 1, by omega, by go_num, Lib.hid rfl, HC, HBO, HBF, HBR, HSW⟩
                  case measure => rw [← HZ.out]; omega
              · have HD : RowKit.Hid (BF wr gy (inM zs1)) := Lib.hid (by
                  have e := HBS.out
                  rwa [List.take_of_length_le (by rw [HM1.out]; omega)] at e)
                clear HBS HZ
                have HO0 := Lib.hid (fun W (h : Below w.heap.size w W) => cand_Of zs0 A0 cap0 W.heap.size W (Nat.le_refl _) (HR0.out W h) (by rw [HM0.out]; omega))
                have HO1 := Lib.hid (fun W (h : Below w.heap.size w W) => cand_Of zs1 A1 cap1 W.heap.size W (Nat.le_refl _) (HR1.out W h) (by rw [HM1.out]; omega))
                rw [HM0.out] at HO0
                rw [HM1.out] at HO1
                have HI0 := Lib.hid (fun j (hj : j < 256) => inM_of zs0 hj)
                have HI1 := Lib.hid (fun j (hj : j < 256) => inM_of zs1 hj)
                have HL0 : Hid (Unit → ofB' zs0 < 2 ^ 256) := Lib.hid (fun _ => foldB_lt zs0 0 (Nat.two_pow_pos 256))
                have HL1 : Hid (Unit → ofB' zs1 < 2 ^ 256) := Lib.hid (fun _ => foldB_lt zs1 0 (Nat.two_pow_pos 256))
                have HX := Lib.hid (HBO.out.congr (f' := fun j => (ofB' zs0).testBit j) (fun j hj => HI0.out j hj))
                have HY := Lib.hid (HD.out.congr (f' := fun j => (ofB' zs1).testBit j) (fun j hj => HI1.out j hj))
                clear HI0 HI1 HBO HD
                generalize ofB' zs0 = B at *
                generalize ofB' zs1 = C at *
                unfold setC at HO0 HO1
                gi_wp2_with fail
                refine ⟨trivial, rfl, ?_⟩
                refine (callsIn_wide.2 (HO0.out _ HSW.out)).mono ?_
                rintro e wA ⟨rfl, hbA⟩
                have HBA := Lib.hid hbA
                have HSA := Lib.hid (HSW.out.trans (hbA.mono HSW.out.size))
                clear hbA
                dsimp only
                gi_wp2_with fail
                refine ⟨trivial, rfl, ?_⟩
                refine (callsIn_wide.2 (HO1.out _ HSA.out)).mono ?_
                rintro e wB ⟨rfl, hbB⟩
                have HBB := Lib.hid (HBA.out.trans (hbB.mono HBA.out.size))
                clear hbB
                dsimp only
                clear HO0 HO1 HR0 HR1 HSA HBA
                gi_wp2_with fail
                obtain ⟨W0, hW0, g1, g2, g3, gS, gz⟩ := three_sets wB B C
                rw [hW0]
                clear hW0
                obtain ⟨G, hG⟩ : ∃ G, wB.heap.size = G := ⟨_, rfl⟩
                rw [hG] at g1 g2 g3 gz ⊢
                have hbS := HBB.out
                have hbx := HX.out.lt
                have hby := HY.out.lt
                have hbf := HBF.out.lt
                have hbr := HBR.out.lt
                have hsz := hbS.size
                have HNE := HNEG.out
                have HGE := HGEX.out
                have HX0 := Lib.hid ((HX.out.on hbS).on gS)
                have HY0 := Lib.hid ((HY.out.on hbS).on gS)
                have HF0 := Lib.hid ((HBF.out.on hbS).on gS)
                have HR0 := Lib.hid ((HBR.out.on hbS).on gS)
                have HS0 := Lib.hid ((HSW.out.trans (hbS.mono HSW.out.size)).trans (gS.mono (by have := HSW.out.size; omega)))
                have HLT := Lib.hid (show gx < G ∧ gy < G ∧ w.heap.size + 1 < G by omega)
                have HG1 := Lib.hid g1
                have HG2 := Lib.hid g2
                have HG3 := Lib.hid g3
                have HGZ := Lib.hid gz
                have hlx : gx < G + 2 := by omega
                clear hG gS hbS hbx hby hbf hbr hsz HNE HGE HX HY HBF HBR HSW HBB HNEG HGEX g1 g2 g3 gz hlt hk
                gi_loopg [15, 16, 18] (256) (fun gk sv mv iv wr => ∃ (k : Nat) (lv : Value), k ≤ 256 ∧ iv = .int .i64 (k : Int) ∧ sv = .bool (sm B C k) ∧ mv = .int .i64 (pcn B k : Nat) ∧ RowKit.Hid (256 - k = gk) ∧ RowKit.Hid (Below (G + 2) W0 wr) ∧ RowKit.Hid (Blk wr (G + 2) 22 #[lv]) ∧ RowKit.Hid (Own wr (G + 3) .i64 3 lv (elI B k)) ∧ RowKit.Hid (G + 3 ≤ wr.heap.size))
                case atStart => exact ⟨0, _, by omega, rfl, rfl, rfl, Lib.hid rfl, Lib.hid (Below.refl _ _), HG3, Lib.hid (Own.nil _ _ _ _), Lib.hid (Nat.le_of_eq HGZ.out.symm)⟩
                case round =>
                  obtain ⟨k, lv, hk, rfl, rfl, rfl, HZ, HLOW, HWC, HOW, HSZ⟩ := hrel
                  by_cases hlt : k < 256
                  · have hLT := HLT.out
                    have HGX := Lib.hid (HX0.out.below HLOW.out (by omega))
                    have HGY := Lib.hid (HY0.out.below HLOW.out (by omega))
                    have HA := Lib.hid (HG1.out.below HLOW.out (by omega))
                    have HB := Lib.hid (HG2.out.below HLOW.out (by omega))
                    have HR := Lib.hid (HR0.out.below HLOW.out (by omega))
                    have x0 := HGX.out.cell hlt
                    have y0 := HGY.out.cell hlt
                    have hik : 0 ≤ (k : Int) ∧ (k : Int) < 256 := by omega
                    obtain ⟨s, hs⟩ : ∃ s, sm B C k = s := ⟨_, rfl⟩
                    have HSM := Lib.hid hs
                    have hp := pcn_le B k
                    obtain ⟨q, hq⟩ : ∃ q, pcn B k = q := ⟨_, rfl⟩
                    have HQ := Lib.hid hq
                    rw [hq] at hp ⊢
                    have hq0 : (q : Int) ≤ 256 := by omega
                    rw [hs]
                    clear hs hq hp hLT
                    cases s <;> cases hbb : B.testBit k <;> cases hcc : C.testBit k
                    all_goals
                      simp only [hbb] at x0
                      simp only [hcc] at y0
                      have HBT := Lib.hid hbb
                      have HCT := Lib.hid hcc
                      clear hbb hcc
                      gi_wp2_with fail
                      have ke0 := cell_regrown x0
                      have ke1 := cell_regrown y0
                      refine wpIn_region_quietR (by kernel_rfl) (by kernel_rfl) (by kernel_rfl) ?_
                      repeat (first | gi_big_quiet_skip | (gi_big_quiet_want; gi_big_quiet_op; go_big_quiet_on))
                      refine wpQuietIn_nil ?_
                      intro _ hw'
                      obtain ⟨⟨dq, osq⟩, hw''⟩ := hw'
                      subst hw''
                      clear ke0 ke1 x0 y0
                      have hb5 := below_regrown wr dq osq
                      generalize grow (redrawn wr dq) osq = w5 at *
                      have HGX5 := Lib.hid (HGX.out.on hb5)
                      have HLOW5 := Lib.hid (HLOW.out.trans (hb5.mono (by have := HSZ.out; omega)))
                      have HWC5 := Lib.hid (HWC.out.on hb5)
                      have HOW5 := Lib.hid (HOW.out.below hb5)
                      have HSZ5 := Lib.hid (Nat.le_trans HSZ.out hb5.size)
                      have x5 := HGX5.out.cell hlt
                      simp only [HBT.out] at x5
                      clear HGX HGY HA HB HR HLOW HWC HOW HSZ hb5 HGX5
                    · as_aux_lemma =>
                        gi_wp2_with fail
                        have HWC6 := Lib.hid HWC5.out
                        have HLOW6 := Lib.hid HLOW5.out
                        have HOW6 : RowKit.Hid (Own w5 (G + 3) .i64 3 lv (elI B (k + 1))) := Lib.hid (by rw [elI_same HBT.out]; exact HOW5.out)
                        have HSZ6 := Lib.hid HSZ5.out
                        have HQ6 := Lib.hid (show pcn B (k + 1) = q by rw [pcn_same HBT.out, HQ.out])
                        clear x5 HWC5 HLOW5 HOW5 HSZ5 HQ
                        generalize w5 = wc at *
                        have hLT := HLT.out
                        have x6 := (HX0.out.below HLOW6.out (by omega)).cell hlt
                        have y6 := (HY0.out.below HLOW6.out (by omega)).cell hlt
                        simp only [HBT.out] at x6
                        simp only [HCT.out] at y6
                        have hA6 := HG1.out.below HLOW6.out (by omega)
                        have hC6 := HG2.out.below HLOW6.out (by omega)
                        unfold setC at hA6 hC6
                        obtain ⟨a0, a1, a2, a3, -⟩ := cells4 hA6
                        obtain ⟨b0, b1, b2, b3, -⟩ := cells4 hC6
                        obtain ⟨dn, hdn⟩ : ∃ dn, decide ((k : Int) = n) = dn := ⟨_, rfl⟩
                        have hdn' : ((k : Int) == n) = dn := by rw [← hdn]; rfl
                        have v1 : hasB B (k : Int) = false := by rw [hasB_nat _ _ hlt]; exact HBT.out
                        have v2 : hasB (B ||| C) (k : Int) = false := by rw [hasB_or, hasB_nat _ _ hlt, hasB_nat _ _ hlt, HBT.out, HCT.out]; rfl
                        have v3 : hasB (B &&& C) (k : Int) = false := by rw [hasB_and, hasB_nat _ _ hlt, hasB_nat _ _ hlt, HBT.out, HCT.out]; rfl
                        have v4 : hasB (withB B n) (k : Int) = dn := by rw [hasB_with, v1, hdn, decide_eq_true hik.1, decide_eq_true hik.2]; simp
                        have k1 := fun d os => CallsIn.regrown_of (F := Fence.wide) (r := 0) (callsIn_wide.2 (cand_Has B (k : Int) (grow (redrawn wc d) os)))
                        have k2 := fun d os => CallsIn.regrown_of (F := Fence.wide) (r := 0) (callsIn_wide.2 (cand_Has (B ||| C) (k : Int) (grow (redrawn wc d) os)))
                        have k3 := fun d os => CallsIn.regrown_of (F := Fence.wide) (r := 0) (callsIn_wide.2 (cand_Has (B &&& C) (k : Int) (grow (redrawn wc d) os)))
                        have k4 := fun d os => CallsIn.regrown_of (F := Fence.wide) (r := 0) (callsIn_wide.2 (cand_Has (withB B n) (k : Int) (grow (redrawn wc d) os)))
                        have kO := fun d os => CallsIn.regrown_of (F := Fence.wide) (r := 0) (callsIn_wide.2 (cand_Or B C (grow (redrawn wc d) os)))
                        have kA := fun d os => CallsIn.regrown_of (F := Fence.wide) (r := 0) (callsIn_wide.2 (cand_And B C (grow (redrawn wc d) os)))
                        have kW := fun d os => CallsIn.regrown_of (F := Fence.wide) (r := 0) (callsIn_wide.2 (cand_With B n (grow (redrawn wc d) os)))
                        simp only [v1, setC] at k1
                        simp only [v2, setC] at k2
                        simp only [v3, setC] at k3
                        simp only [v4, setC] at k4
                        simp only [setC] at kO kA kW
                        have K1 := Lib.hid k1
                        have K2 := Lib.hid k2
                        have K3 := Lib.hid k3
                        have K4 := Lib.hid k4
                        have KO := Lib.hid kO
                        have KA := Lib.hid kA
                        have KW := Lib.hid kW
                        have ke0 := cell_regrown x6
                        have ke1 := cell_regrown y6
                        have ka0 := cell_regrown a0
                        have ka1 := cell_regrown a1
                        have ka2 := cell_regrown a2
                        have ka3 := cell_regrown a3
                        have kb0 := cell_regrown b0
                        have kb1 := cell_regrown b1
                        have kb2 := cell_regrown b2
                        have kb3 := cell_regrown b3
                        clear k1 k2 k3 k4 kO kA kW hA6 hC6 v1 v2 v3 v4 x6 y6 a0 a1 a2 a3 b0 b1 b2 b3 hLT
                        refine wpIn_region_quietR (by kernel_rfl) (by kernel_rfl) (by kernel_rfl) ?_
                        repeat (first | gi_big_quiet_skip | ((first | gi_big_quiet_want | (refine BigFrame.wpQuietIn_want (fun _ _ _ _ => trivial) rfl ?_; intro K hK)); gi_big_quiet_op; first | go_big_quiet_on | (apply Exists.intro; refine ⟨fun _ => ?_, ?_⟩; (· first | (refine ⟨rfl, ?_⟩; first | (with_reducible exact K1.out _ _) | (with_reducible exact K2.out _ _) | (with_reducible exact K3.out _ _) | (with_reducible exact K4.out _ _) | (with_reducible exact KO.out _ _) | (with_reducible exact KA.out _ _) | (with_reducible exact KW.out _ _)) | (with_reducible exact K1.out _ _) | (with_reducible exact K2.out _ _) | (with_reducible exact K3.out _ _) | (with_reducible exact K4.out _ _) | (with_reducible exact KO.out _ _) | (with_reducible exact KA.out _ _) | (with_reducible exact KW.out _ _)); go_big_quiet_on)))
                        refine wpQuietIn_nil ?_
                        intro _ hw'
                        obtain ⟨⟨dq, osq⟩, hw''⟩ := hw'
                        subst hw''
                        clear K1 K2 K3 K4 KO KA KW ke0 ke1 ka0 ka1 ka2 ka3 kb0 kb1 kb2 kb3
                        have hb9 := below_regrown wc dq osq
                        generalize grow (redrawn wc dq) osq = w9 at *
                        have HLOW9 := Lib.hid (HLOW6.out.trans (hb9.mono (by have := HSZ6.out; omega)))
                        have HWC9 := Lib.hid (HWC6.out.on hb9)
                        have HOW9 := Lib.hid (HOW6.out.below hb9)
                        have HSZ9 := Lib.hid (Nat.le_trans HSZ6.out hb9.size)
                        clear hb9 HLOW6 HWC6 HOW6 HSZ6
                        gi_wp2_with fail
                        gi_roundg (256 - (k + 1))
                        case rel => exact ⟨k + 1, _, by omega, by go_num, by rw [sm, HSM.out, HBT.out, HCT.out]; rfl, by rw [HQ6.out] <;> go_num, Lib.hid rfl, HLOW9, HWC9, HOW9, HSZ9⟩
                        case measure => rw [← HZ.out]; omega
                    · as_aux_lemma =>
                        gi_wp2_with fail
                        have HWC6 := Lib.hid HWC5.out
                        have HLOW6 := Lib.hid HLOW5.out
                        have HOW6 : RowKit.Hid (Own w5 (G + 3) .i64 3 lv (elI B (k + 1))) := Lib.hid (by rw [elI_same HBT.out]; exact HOW5.out)
                        have HSZ6 := Lib.hid HSZ5.out
                        have HQ6 := Lib.hid (show pcn B (k + 1) = q by rw [pcn_same HBT.out, HQ.out])
                        clear x5 HWC5 HLOW5 HOW5 HSZ5 HQ
                        generalize w5 = wc at *
                        have hLT := HLT.out
                        have x6 := (HX0.out.below HLOW6.out (by omega)).cell hlt
                        have y6 := (HY0.out.below HLOW6.out (by omega)).cell hlt
                        simp only [HBT.out] at x6
                        simp only [HCT.out] at y6
                        have hA6 := HG1.out.below HLOW6.out (by omega)
                        have hC6 := HG2.out.below HLOW6.out (by omega)
                        unfold setC at hA6 hC6
                        obtain ⟨a0, a1, a2, a3, -⟩ := cells4 hA6
                        obtain ⟨b0, b1, b2, b3, -⟩ := cells4 hC6
                        obtain ⟨dn, hdn⟩ : ∃ dn, decide ((k : Int) = n) = dn := ⟨_, rfl⟩
                        have hdn' : ((k : Int) == n) = dn := by rw [← hdn]; rfl
                        have v1 : hasB B (k : Int) = false := by rw [hasB_nat _ _ hlt]; exact HBT.out
                        have v2 : hasB (B ||| C) (k : Int) = true := by rw [hasB_or, hasB_nat _ _ hlt, hasB_nat _ _ hlt, HBT.out, HCT.out]; rfl
                        have v3 : hasB (B &&& C) (k : Int) = false := by rw [hasB_and, hasB_nat _ _ hlt, hasB_nat _ _ hlt, HBT.out, HCT.out]; rfl
                        have v4 : hasB (withB B n) (k : Int) = dn := by rw [hasB_with, v1, hdn, decide_eq_true hik.1, decide_eq_true hik.2]; simp
                        have k1 := fun d os => CallsIn.regrown_of (F := Fence.wide) (r := 0) (callsIn_wide.2 (cand_Has B (k : Int) (grow (redrawn wc d) os)))
                        have k2 := fun d os => CallsIn.regrown_of (F := Fence.wide) (r := 0) (callsIn_wide.2 (cand_Has (B ||| C) (k : Int) (grow (redrawn wc d) os)))
                        have k3 := fun d os => CallsIn.regrown_of (F := Fence.wide) (r := 0) (callsIn_wide.2 (cand_Has (B &&& C) (k : Int) (grow (redrawn wc d) os)))
                        have k4 := fun d os => CallsIn.regrown_of (F := Fence.wide) (r := 0) (callsIn_wide.2 (cand_Has (withB B n) (k : Int) (grow (redrawn wc d) os)))
                        have kO := fun d os => CallsIn.regrown_of (F := Fence.wide) (r := 0) (callsIn_wide.2 (cand_Or B C (grow (redrawn wc d) os)))
                        have kA := fun d os => CallsIn.regrown_of (F := Fence.wide) (r := 0) (callsIn_wide.2 (cand_And B C (grow (redrawn wc d) os)))
                        have kW := fun d os => CallsIn.regrown_of (F := Fence.wide) (r := 0) (callsIn_wide.2 (cand_With B n (grow (redrawn wc d) os)))
                        simp only [v1, setC] at k1
                        simp only [v2, setC] at k2
                        simp only [v3, setC] at k3
                        simp only [v4, setC] at k4
                        simp only [setC] at kO kA kW
                        have K1 := Lib.hid k1
                        have K2 := Lib.hid k2
                        have K3 := Lib.hid k3
                        have K4 := Lib.hid k4
                        have KO := Lib.hid kO
                        have KA := Lib.hid kA
                        have KW := Lib.hid kW
                        have ke0 := cell_regrown x6
                        have ke1 := cell_regrown y6
                        have ka0 := cell_regrown a0
                        have ka1 := cell_regrown a1
                        have ka2 := cell_regrown a2
                        have ka3 := cell_regrown a3
                        have kb0 := cell_regrown b0
                        have kb1 := cell_regrown b1
                        have kb2 := cell_regrown b2
                        have kb3 := cell_regrown b3
                        clear k1 k2 k3 k4 kO kA kW hA6 hC6 v1 v2 v3 v4 x6 y6 a0 a1 a2 a3 b0 b1 b2 b3 hLT
                        refine wpIn_region_quietR (by kernel_rfl) (by kernel_rfl) (by kernel_rfl) ?_
                        repeat (first | gi_big_quiet_skip | ((first | gi_big_quiet_want | (refine BigFrame.wpQuietIn_want (fun _ _ _ _ => trivial) rfl ?_; intro K hK)); gi_big_quiet_op; first | go_big_quiet_on | (apply Exists.intro; refine ⟨fun _ => ?_, ?_⟩; (· first | (refine ⟨rfl, ?_⟩; first | (with_reducible exact K1.out _ _) | (with_reducible exact K2.out _ _) | (with_reducible exact K3.out _ _) | (with_reducible exact K4.out _ _) | (with_reducible exact KO.out _ _) | (with_reducible exact KA.out _ _) | (with_reducible exact KW.out _ _)) | (with_reducible exact K1.out _ _) | (with_reducible exact K2.out _ _) | (with_reducible exact K3.out _ _) | (with_reducible exact K4.out _ _) | (with_reducible exact KO.out _ _) | (with_reducible exact KA.out _ _) | (with_reducible exact KW.out _ _)); go_big_quiet_on)))
                        refine wpQuietIn_nil ?_
                        intro _ hw'
                        obtain ⟨⟨dq, osq⟩, hw''⟩ := hw'
                        subst hw''
                        clear K1 K2 K3 K4 KO KA KW ke0 ke1 ka0 ka1 ka2 ka3 kb0 kb1 kb2 kb3
                        have hb9 := below_regrown wc dq osq
                        generalize grow (redrawn wc dq) osq = w9 at *
                        have HLOW9 := Lib.hid (HLOW6.out.trans (hb9.mono (by have := HSZ6.out; omega)))
                        have HWC9 := Lib.hid (HWC6.out.on hb9)
                        have HOW9 := Lib.hid (HOW6.out.below hb9)
                        have HSZ9 := Lib.hid (Nat.le_trans HSZ6.out hb9.size)
                        clear hb9 HLOW6 HWC6 HOW6 HSZ6
                        gi_wp2_with fail
                        gi_roundg (256 - (k + 1))
                        case rel => exact ⟨k + 1, _, by omega, by go_num, by rw [sm, HSM.out, HBT.out, HCT.out]; rfl, by rw [HQ6.out] <;> go_num, Lib.hid rfl, HLOW9, HWC9, HOW9, HSZ9⟩
                        case measure => rw [← HZ.out]; omega
                    · as_aux_lemma =>
                        have c5 := sblk HWC5.out
                        obtain ⟨v', w6, hRn, hO, hB6⟩ := push_i HOW5.out (k : Int) (by rw [elI_len, HQ.out]; omega) HSZ5.out
                        obtain ⟨A', cap', rfl, -⟩ := hO.form
                        have hlen : (elI B k ++ [(k : Int)]).length = q + 1 := by rw [List.length_append, elI_len, HQ.out]; rfl
                        rw [hlen] at hRn hO
                        have HRN := Lib.hid hRn
                        have HO6 := Lib.hid hO
                        have hw6 := HWC5.out.below hB6 (by omega)
                        have d6 := sblk hw6
                        have f6 := hw6.free 0
                        have HW6 := Lib.hid hw6
                        have HB6 := Lib.hid hB6
                        clear hRn hO hB6 hw6 hlen
                        gi_wp2_with (first
                          | ((with_reducible refine is_appendIn 22 rfl ?_); (with_reducible refine wpListIn_append_run rfl rfl HRN.out ?_ ?_ ?_); (· rfl); (· rfl))
                          | fail)
                        have HWC6 := Lib.hid (HW6.out.put 0 (.slice A' (q + 1) cap'))
                        have HLOW6 := Lib.hid ((HLOW5.out.trans (HB6.out.mono (by omega))).setCell (p := ⟨G + 2, 0, none⟩) (Nat.le_refl _) (.slice A' (q + 1) cap'))
                        have HOW6 : RowKit.Hid (Own (w6.setCell ⟨G + 2, 0, none⟩ (.slice A' (q + 1) cap')) (G + 3) .i64 3 (.slice A' (q + 1) cap') (elI B (k + 1))) := Lib.hid (by
                          rw [elI_next HBT.out]
                          exact HO6.out.keep fun i hi _ => Below.heap_setCell w6 ⟨G + 2, 0, none⟩ _ i (by show i ≠ G + 2; omega))
                        have HSZ6 : RowKit.Hid (G + 3 ≤ (w6.setCell ⟨G + 2, 0, none⟩ (.slice A' (q + 1) cap')).heap.size) := Lib.hid (by have h1 := HB6.out.size; have h2 := HSZ5.out; simp [World.setCell]; omega)
                        have HQ6 := Lib.hid (show pcn B (k + 1) = q + 1 by rw [pcn_next HBT.out, HQ.out])
                        clear HW6 HB6 HO6 HRN d6 f6 c5 x5 HWC5 HLOW5 HOW5 HSZ5 HQ
                        generalize w6.setCell ⟨G + 2, 0, none⟩ (.slice A' (q + 1) cap') = wc at *
                        have hLT := HLT.out
                        have x6 := (HX0.out.below HLOW6.out (by omega)).cell hlt
                        have y6 := (HY0.out.below HLOW6.out (by omega)).cell hlt
                        simp only [HBT.out] at x6
                        simp only [HCT.out] at y6
                        have hA6 := HG1.out.below HLOW6.out (by omega)
                        have hC6 := HG2.out.below HLOW6.out (by omega)
                        unfold setC at hA6 hC6
                        obtain ⟨a0, a1, a2, a3, -⟩ := cells4 hA6
                        obtain ⟨b0, b1, b2, b3, -⟩ := cells4 hC6
                        obtain ⟨dn, hdn⟩ : ∃ dn, decide ((k : Int) = n) = dn := ⟨_, rfl⟩
                        have hdn' : ((k : Int) == n) = dn := by rw [← hdn]; rfl
                        have v1 : hasB B (k : Int) = true := by rw [hasB_nat _ _ hlt]; exact HBT.out
                        have v2 : hasB (B ||| C) (k : Int) = true := by rw [hasB_or, hasB_nat _ _ hlt, hasB_nat _ _ hlt, HBT.out, HCT.out]; rfl
                        have v3 : hasB (B &&& C) (k : Int) = false := by rw [hasB_and, hasB_nat _ _ hlt, hasB_nat _ _ hlt, HBT.out, HCT.out]; rfl
                        have v4 : hasB (withB B n) (k : Int) = true := by rw [hasB_with, v1, hdn, decide_eq_true hik.1, decide_eq_true hik.2]; rfl
                        have k1 := fun d os => CallsIn.regrown_of (F := Fence.wide) (r := 0) (callsIn_wide.2 (cand_Has B (k : Int) (grow (redrawn wc d) os)))
                        have k2 := fun d os => CallsIn.regrown_of (F := Fence.wide) (r := 0) (callsIn_wide.2 (cand_Has (B ||| C) (k : Int) (grow (redrawn wc d) os)))
                        have k3 := fun d os => CallsIn.regrown_of (F := Fence.wide) (r := 0) (callsIn_wide.2 (cand_Has (B &&& C) (k : Int) (grow (redrawn wc d) os)))
                        have k4 := fun d os => CallsIn.regrown_of (F := Fence.wide) (r := 0) (callsIn_wide.2 (cand_Has (withB B n) (k : Int) (grow (redrawn wc d) os)))
                        have kO := fun d os => CallsIn.regrown_of (F := Fence.wide) (r := 0) (callsIn_wide.2 (cand_Or B C (grow (redrawn wc d) os)))
                        have kA := fun d os => CallsIn.regrown_of (F := Fence.wide) (r := 0) (callsIn_wide.2 (cand_And B C (grow (redrawn wc d) os)))
                        have kW := fun d os => CallsIn.regrown_of (F := Fence.wide) (r := 0) (callsIn_wide.2 (cand_With B n (grow (redrawn wc d) os)))
                        simp only [v1, setC] at k1
                        simp only [v2, setC] at k2
                        simp only [v3, setC] at k3
                        simp only [v4, setC] at k4
                        simp only [setC] at kO kA kW
                        have K1 := Lib.hid k1
                        have K2 := Lib.hid k2
                        have K3 := Lib.hid k3
                        have K4 := Lib.hid k4
                        have KO := Lib.hid kO
                        have KA := Lib.hid kA
                        have KW := Lib.hid kW
                        have ke0 := cell_regrown x6
                        have ke1 := cell_regrown y6
                        have ka0 := cell_regrown a0
                        have ka1 := cell_regrown a1
                        have ka2 := cell_regrown a2
                        have ka3 := cell_regrown a3
                        have kb0 := cell_regrown b0
                        have kb1 := cell_regrown b1
                        have kb2 := cell_regrown b2
                        have kb3 := cell_regrown b3
                        clear k1 k2 k3 k4 kO kA kW hA6 hC6 v1 v2 v3 v4 x6 y6 a0 a1 a2 a3 b0 b1 b2 b3 hLT
                        refine wpIn_region_quietR (by kernel_rfl) (by kernel_rfl) (by kernel_rfl) ?_
                        repeat (first | gi_big_quiet_skip | ((first | gi_big_quiet_want | (refine BigFrame.wpQuietIn_want (fun _ _ _ _ => trivial) rfl ?_; intro K hK)); gi_big_quiet_op; first | go_big_quiet_on | (apply Exists.intro; refine ⟨fun _ => ?_, ?_⟩; (· first | (refine ⟨rfl, ?_⟩; first | (with_reducible exact K1.out _ _) | (with_reducible exact K2.out _ _) | (with_reducible exact K3.out _ _) | (with_reducible exact K4.out _ _) | (with_reducible exact KO.out _ _) | (with_reducible exact KA.out _ _) | (with_reducible exact KW.out _ _)) | (with_reducible exact K1.out _ _) | (with_reducible exact K2.out _ _) | (with_reducible exact K3.out _ _) | (with_reducible exact K4.out _ _) | (with_reducible exact KO.out _ _) | (with_reducible exact KA.out _ _) | (with_reducible exact KW.out _ _)); go_big_quiet_on)))
                        refine wpQuietIn_nil ?_
                        intro _ hw'
                        obtain ⟨⟨dq, osq⟩, hw''⟩ := hw'
                        subst hw''
                        clear K1 K2 K3 K4 KO KA KW ke0 ke1 ka0 ka1 ka2 ka3 kb0 kb1 kb2 kb3
                        have hb9 := below_regrown wc dq osq
                        generalize grow (redrawn wc dq) osq = w9 at *
                        have HLOW9 := Lib.hid (HLOW6.out.trans (hb9.mono (by have := HSZ6.out; omega)))
                        have HWC9 := Lib.hid (HWC6.out.on hb9)
                        have HOW9 := Lib.hid (HOW6.out.below hb9)
                        have HSZ9 := Lib.hid (Nat.le_trans HSZ6.out hb9.size)
                        clear hb9 HLOW6 HWC6 HOW6 HSZ6
                        gi_wp2_with fail
                        gi_roundg (256 - (k + 1))
                        case rel => exact ⟨k + 1, _, by omega, by go_num, by rw [sm, HSM.out, HBT.out, HCT.out]; rfl, by rw [HQ6.out] <;> go_num, Lib.hid rfl, HLOW9, HWC9, HOW9, HSZ9⟩
                        case measure => rw [← HZ.out]; omega
                    · as_aux_lemma =>
                        have c5 := sblk HWC5.out
                        obtain ⟨v', w6, hRn, hO, hB6⟩ := push_i HOW5.out (k : Int) (by rw [elI_len, HQ.out]; omega) HSZ5.out
                        obtain ⟨A', cap', rfl, -⟩ := hO.form
                        have hlen : (elI B k ++ [(k : Int)]).length = q + 1 := by rw [List.length_append, elI_len, HQ.out]; rfl
                        rw [hlen] at hRn hO
                        have HRN := Lib.hid hRn
                        have HO6 := Lib.hid hO
                        have hw6 := HWC5.out.below hB6 (by omega)
                        have d6 := sblk hw6
                        have f6 := hw6.free 0
                        have HW6 := Lib.hid hw6
                        have HB6 := Lib.hid hB6
                        clear hRn hO hB6 hw6 hlen
                        gi_wp2_with (first
                          | ((with_reducible refine is_appendIn 22 rfl ?_); (with_reducible refine wpListIn_append_run rfl rfl HRN.out ?_ ?_ ?_); (· rfl); (· rfl))
                          | fail)
                        have HWC6 := Lib.hid (HW6.out.put 0 (.slice A' (q + 1) cap'))
                        have HLOW6 := Lib.hid ((HLOW5.out.trans (HB6.out.mono (by omega))).setCell (p := ⟨G + 2, 0, none⟩) (Nat.le_refl _) (.slice A' (q + 1) cap'))
                        have HOW6 : RowKit.Hid (Own (w6.setCell ⟨G + 2, 0, none⟩ (.slice A' (q + 1) cap')) (G + 3) .i64 3 (.slice A' (q + 1) cap') (elI B (k + 1))) := Lib.hid (by
                          rw [elI_next HBT.out]
                          exact HO6.out.keep fun i hi _ => Below.heap_setCell w6 ⟨G + 2, 0, none⟩ _ i (by show i ≠ G + 2; omega))
                        have HSZ6 : RowKit.Hid (G + 3 ≤ (w6.setCell ⟨G + 2, 0, none⟩ (.slice A' (q + 1) cap')).heap.size) := Lib.hid (by have h1 := HB6.out.size; have h2 := HSZ5.out; simp [World.setCell]; omega)
                        have HQ6 := Lib.hid (show pcn B (k + 1) = q + 1 by rw [pcn_next HBT.out, HQ.out])
                        clear HW6 HB6 HO6 HRN d6 f6 c5 x5 HWC5 HLOW5 HOW5 HSZ5 HQ
                        generalize w6.setCell ⟨G + 2, 0, none⟩ (.slice A' (q + 1) cap') = wc at *
                        have hLT := HLT.out
                        have x6 := (HX0.out.below HLOW6.out (by omega)).cell hlt
                        have y6 := (HY0.out.below HLOW6.out (by omega)).cell hlt
                        simp only [HBT.out] at x6
                        simp only [HCT.out] at y6
                        have hA6 := HG1.out.below HLOW6.out (by omega)
                        have hC6 := HG2.out.below HLOW6.out (by omega)
                        unfold setC at hA6 hC6
                        obtain ⟨a0, a1, a2, a3, -⟩ := cells4 hA6
                        obtain ⟨b0, b1, b2, b3, -⟩ := cells4 hC6
                        obtain ⟨dn, hdn⟩ : ∃ dn, decide ((k : Int) = n) = dn := ⟨_, rfl⟩
                        have hdn' : ((k : Int) == n) = dn := by rw [← hdn]; rfl
                        have v1 : hasB B (k : Int) = true := by rw [hasB_nat _ _ hlt]; exact HBT.out
                        have v2 : hasB (B ||| C) (k : Int) = true := by rw [hasB_or, hasB_nat _ _ hlt, hasB_nat _ _ hlt, HBT.out, HCT.out]; rfl
                        have v3 : hasB (B &&& C) (k : Int) = true := by rw [hasB_and, hasB_nat _ _ hlt, hasB_nat _ _ hlt, HBT.out, HCT.out]; rfl
                        have v4 : hasB (withB B n) (k : Int) = true := by rw [hasB_with, v1, hdn, decide_eq_true hik.1, decide_eq_true hik.2]; rfl
                        have k1 := fun d os => CallsIn.regrown_of (F := Fence.wide) (r := 0) (callsIn_wide.2 (cand_Has B (k : Int) (grow (redrawn wc d) os)))
                        have k2 := fun d os => CallsIn.regrown_of (F := Fence.wide) (r := 0) (callsIn_wide.2 (cand_Has (B ||| C) (k : Int) (grow (redrawn wc d) os)))
                        have k3 := fun d os => CallsIn.regrown_of (F := Fence.wide) (r := 0) (callsIn_wide.2 (cand_Has (B &&& C) (k : Int) (grow (redrawn wc d) os)))
                        have k4 := fun d os => CallsIn.regrown_of (F := Fence.wide) (r := 0) (callsIn_wide.2 (cand_Has (withB B n) (k : Int) (grow (redrawn wc d) os)))
                        have kO := fun d os => CallsIn.regrown_of (F := Fence.wide) (r := 0) (callsIn_wide.2 (cand_Or B C (grow (redrawn wc d) os)))
                        have kA := fun d os => CallsIn.regrown_of (F := Fence.wide) (r := 0) (callsIn_wide.2 (cand_And B C (grow (redrawn wc d) os)))
                        have kW := fun d os => CallsIn.regrown_of (F := Fence.wide) (r := 0) (callsIn_wide.2 (cand_With B n (grow (redrawn wc d) os)))
                        simp only [v1, setC] at k1
                        simp only [v2, setC] at k2
                        simp only [v3, setC] at k3
                        simp only [v4, setC] at k4
                        simp only [setC] at kO kA kW
                        have K1 := Lib.hid k1
                        have K2 := Lib.hid k2
                        have K3 := Lib.hid k3
                        have K4 := Lib.hid k4
                        have KO := Lib.hid kO
                        have KA := Lib.hid kA
                        have KW := Lib.hid kW
                        have ke0 := cell_regrown x6
                        have ke1 := cell_regrown y6
                        have ka0 := cell_regrown a0
                        have ka1 := cell_regrown a1
                        have ka2 := cell_regrown a2
                        have ka3 := cell_regrown a3
                        have kb0 := cell_regrown b0
                        have kb1 := cell_regrown b1
                        have kb2 := cell_regrown b2
                        have kb3 := cell_regrown b3
                        clear k1 k2 k3 k4 kO kA kW hA6 hC6 v1 v2 v3 v4 x6 y6 a0 a1 a2 a3 b0 b1 b2 b3 hLT
                        refine wpIn_region_quietR (by kernel_rfl) (by kernel_rfl) (by kernel_rfl) ?_
                        repeat (first | gi_big_quiet_skip | ((first | gi_big_quiet_want | (refine BigFrame.wpQuietIn_want (fun _ _ _ _ => trivial) rfl ?_; intro K hK)); gi_big_quiet_op; first | go_big_quiet_on | (apply Exists.intro; refine ⟨fun _ => ?_, ?_⟩; (· first | (refine ⟨rfl, ?_⟩; first | (with_reducible exact K1.out _ _) | (with_reducible exact K2.out _ _) | (with_reducible exact K3.out _ _) | (with_reducible exact K4.out _ _) | (with_reducible exact KO.out _ _) | (with_reducible exact KA.out _ _) | (with_reducible exact KW.out _ _)) | (with_reducible exact K1.out _ _) | (with_reducible exact K2.out _ _) | (with_reducible exact K3.out _ _) | (with_reducible exact K4.out _ _) | (with_reducible exact KO.out _ _) | (with_reducible exact KA.out _ _) | (with_reducible exact KW.out _ _)); go_big_quiet_on)))
                        refine wpQuietIn_nil ?_
                        intro _ hw'
                        obtain ⟨⟨dq, osq⟩, hw''⟩ := hw'
                        subst hw''
                        clear K1 K2 K3 K4 KO KA KW ke0 ke1 ka0 ka1 ka2 ka3 kb0 kb1 kb2 kb3
                        have hb9 := below_regrown wc dq osq
                        generalize grow (redrawn wc dq) osq = w9 at *
                        have HLOW9 := Lib.hid (HLOW6.out.trans (hb9.mono (by have := HSZ6.out; omega)))
                        have HWC9 := Lib.hid (HWC6.out.on hb9)
                        have HOW9 := Lib.hid (HOW6.out.below hb9)
                        have HSZ9 := Lib.hid (Nat.le_trans HSZ6.out hb9.size)
                        clear hb9 HLOW6 HWC6 HOW6 HSZ6
                        gi_wp2_with fail
                        gi_roundg (256 - (k + 1))
                        case rel => exact ⟨k + 1, _, by omega, by go_num, by rw [sm, HSM.out, HBT.out, HCT.out]; rfl, by rw [HQ6.out] <;> go_num, Lib.hid rfl, HLOW9, HWC9, HOW9, HSZ9⟩
                        case measure => rw [← HZ.out]; omega
                    · as_aux_lemma =>
                        gi_wp2_with fail
                        have HWC6 := Lib.hid HWC5.out
                        have HLOW6 := Lib.hid HLOW5.out
                        have HOW6 : RowKit.Hid (Own w5 (G + 3) .i64 3 lv (elI B (k + 1))) := Lib.hid (by rw [elI_same HBT.out]; exact HOW5.out)
                        have HSZ6 := Lib.hid HSZ5.out
                        have HQ6 := Lib.hid (show pcn B (k + 1) = q by rw [pcn_same HBT.out, HQ.out])
                        clear x5 HWC5 HLOW5 HOW5 HSZ5 HQ
                        generalize w5 = wc at *
                        have hLT := HLT.out
                        have x6 := (HX0.out.below HLOW6.out (by omega)).cell hlt
                        have y6 := (HY0.out.below HLOW6.out (by omega)).cell hlt
                        simp only [HBT.out] at x6
                        simp only [HCT.out] at y6
                        have hA6 := HG1.out.below HLOW6.out (by omega)
                        have hC6 := HG2.out.below HLOW6.out (by omega)
                        unfold setC at hA6 hC6
                        obtain ⟨a0, a1, a2, a3, -⟩ := cells4 hA6
                        obtain ⟨b0, b1, b2, b3, -⟩ := cells4 hC6
                        obtain ⟨dn, hdn⟩ : ∃ dn, decide ((k : Int) = n) = dn := ⟨_, rfl⟩
                        have hdn' : ((k : Int) == n) = dn := by rw [← hdn]; rfl
                        have v1 : hasB B (k : Int) = false := by rw [hasB_nat _ _ hlt]; exact HBT.out
                        have v2 : hasB (B ||| C) (k : Int) = false := by rw [hasB_or, hasB_nat _ _ hlt, hasB_nat _ _ hlt, HBT.out, HCT.out]; rfl
                        have v3 : hasB (B &&& C) (k : Int) = false := by rw [hasB_and, hasB_nat _ _ hlt, hasB_nat _ _ hlt, HBT.out, HCT.out]; rfl
                        have v4 : hasB (withB B n) (k : Int) = dn := by rw [hasB_with, v1, hdn, decide_eq_true hik.1, decide_eq_true hik.2]; simp
                        have k1 := fun d os => CallsIn.regrown_of (F := Fence.wide) (r := 0) (callsIn_wide.2 (cand_Has B (k : Int) (grow (redrawn wc d) os)))
                        have k2 := fun d os => CallsIn.regrown_of (F := Fence.wide) (r := 0) (callsIn_wide.2 (cand_Has (B ||| C) (k : Int) (grow (redrawn wc d) os)))
                        have k3 := fun d os => CallsIn.regrown_of (F := Fence.wide) (r := 0) (callsIn_wide.2 (cand_Has (B &&& C) (k : Int) (grow (redrawn wc d) os)))
                        have k4 := fun d os => CallsIn.regrown_of (F := Fence.wide) (r := 0) (callsIn_wide.2 (cand_Has (withB B n) (k : Int) (grow (redrawn wc d) os)))
                        have kO := fun d os => CallsIn.regrown_of (F := Fence.wide) (r := 0) (callsIn_wide.2 (cand_Or B C (grow (redrawn wc d) os)))
                        have kA := fun d os => CallsIn.regrown_of (F := Fence.wide) (r := 0) (callsIn_wide.2 (cand_And B C (grow (redrawn wc d) os)))
                        have kW := fun d os => CallsIn.regrown_of (F := Fence.wide) (r := 0) (callsIn_wide.2 (cand_With B n (grow (redrawn wc d) os)))
                        simp only [v1, setC] at k1
                        simp only [v2, setC] at k2
                        simp only [v3, setC] at k3
                        simp only [v4, setC] at k4
                        simp only [setC] at kO kA kW
                        have K1 := Lib.hid k1
                        have K2 := Lib.hid k2
                        have K3 := Lib.hid k3
                        have K4 := Lib.hid k4
                        have KO := Lib.hid kO
                        have KA := Lib.hid kA
                        have KW := Lib.hid kW
                        have ke0 := cell_regrown x6
                        have ke1 := cell_regrown y6
                        have ka0 := cell_regrown a0
                        have ka1 := cell_regrown a1
                        have ka2 := cell_regrown a2
                        have ka3 := cell_regrown a3
                        have kb0 := cell_regrown b0
                        have kb1 := cell_regrown b1
                        have kb2 := cell_regrown b2
                        have kb3 := cell_regrown b3
                        clear k1 k2 k3 k4 kO kA kW hA6 hC6 v1 v2 v3 v4 x6 y6 a0 a1 a2 a3 b0 b1 b2 b3 hLT
                        refine wpIn_region_quietR (by kernel_rfl) (by kernel_rfl) (by kernel_rfl) ?_
                        repeat (first | gi_big_quiet_skip | ((first | gi_big_quiet_want | (refine BigFrame.wpQuietIn_want (fun _ _ _ _ => trivial) rfl ?_; intro K hK)); gi_big_quiet_op; first | go_big_quiet_on | (apply Exists.intro; refine ⟨fun _ => ?_, ?_⟩; (· first | (refine ⟨rfl, ?_⟩; first | (with_reducible exact K1.out _ _) | (with_reducible exact K2.out _ _) | (with_reducible exact K3.out _ _) | (with_reducible exact K4.out _ _) | (with_reducible exact KO.out _ _) | (with_reducible exact KA.out _ _) | (with_reducible exact KW.out _ _)) | (with_reducible exact K1.out _ _) | (with_reducible exact K2.out _ _) | (with_reducible exact K3.out _ _) | (with_reducible exact K4.out _ _) | (with_reducible exact KO.out _ _) | (with_reducible exact KA.out _ _) | (with_reducible exact KW.out _ _)); go_big_quiet_on)))
                        refine wpQuietIn_nil ?_
                        intro _ hw'
                        obtain ⟨⟨dq, osq⟩, hw''⟩ := hw'
                        subst hw''
                        clear K1 K2 K3 K4 KO KA KW ke0 ke1 ka0 ka1 ka2 ka3 kb0 kb1 kb2 kb3
                        have hb9 := below_regrown wc dq osq
                        generalize grow (redrawn wc dq) osq = w9 at *
                        have HLOW9 := Lib.hid (HLOW6.out.trans (hb9.mono (by have := HSZ6.out; omega)))
                        have HWC9 := Lib.hid (HWC6.out.on hb9)
                        have HOW9 := Lib.hid (HOW6.out.below hb9)
                        have HSZ9 := Lib.hid (Nat.le_trans HSZ6.out hb9.size)
                        clear hb9 HLOW6 HWC6 HOW6 HSZ6
                        gi_wp2_with fail
                        gi_roundg (256 - (k + 1))
                        case rel => exact ⟨k + 1, _, by omega, by go_num, by rw [sm, HSM.out, HBT.out, HCT.out]; rfl, by rw [HQ6.out] <;> go_num, Lib.hid rfl, HLOW9, HWC9, HOW9, HSZ9⟩
                        case measure => rw [← HZ.out]; omega
                    · as_aux_lemma =>
                        gi_wp2_with fail
                        have HWC6 := Lib.hid HWC5.out
                        have HLOW6 := Lib.hid HLOW5.out
                        have HOW6 : RowKit.Hid (Own w5 (G + 3) .i64 3 lv (elI B (k + 1))) := Lib.hid (by rw [elI_same HBT.out]; exact HOW5.out)
                        have HSZ6 := Lib.hid HSZ5.out
                        have HQ6 := Lib.hid (show pcn B (k + 1) = q by rw [pcn_same HBT.out, HQ.out])
                        clear x5 HWC5 HLOW5 HOW5 HSZ5 HQ
                        generalize w5 = wc at *
                        have hLT := HLT.out
                        have x6 := (HX0.out.below HLOW6.out (by omega)).cell hlt
                        have y6 := (HY0.out.below HLOW6.out (by omega)).cell hlt
                        simp only [HBT.out] at x6
                        simp only [HCT.out] at y6
                        have hA6 := HG1.out.below HLOW6.out (by omega)
                        have hC6 := HG2.out.below HLOW6.out (by omega)
                        unfold setC at hA6 hC6
                        obtain ⟨a0, a1, a2, a3, -⟩ := cells4 hA6
                        obtain ⟨b0, b1, b2, b3, -⟩ := cells4 hC6
                        obtain ⟨dn, hdn⟩ : ∃ dn, decide ((k : Int) = n) = dn := ⟨_, rfl⟩
                        have hdn' : ((k : Int) == n) = dn := by rw [← hdn]; rfl
                        have v1 : hasB B (k : Int) = false := by rw [hasB_nat _ _ hlt]; exact HBT.out
                        have v2 : hasB (B ||| C) (k : Int) = true := by rw [hasB_or, hasB_nat _ _ hlt, hasB_nat _ _ hlt, HBT.out, HCT.out]; rfl
                        have v3 : hasB (B &&& C) (k : Int) = false := by rw [hasB_and, hasB_nat _ _ hlt, hasB_nat _ _ hlt, HBT.out, HCT.out]; rfl
                        have v4 : hasB (withB B n) (k : Int) = dn := by rw [hasB_with, v1, hdn, decide_eq_true hik.1, decide_eq_true hik.2]; simp
                        have k1 := fun d os => CallsIn.regrown_of (F := Fence.wide) (r := 0) (callsIn_wide.2 (cand_Has B (k : Int) (grow (redrawn wc d) os)))
                        have k2 := fun d os => CallsIn.regrown_of (F := Fence.wide) (r := 0) (callsIn_wide.2 (cand_Has (B ||| C) (k : Int) (grow (redrawn wc d) os)))
                        have k3 := fun d os => CallsIn.regrown_of (F := Fence.wide) (r := 0) (callsIn_wide.2 (cand_Has (B &&& C) (k : Int) (grow (redrawn wc d) os)))
                        have k4 := fun d os => CallsIn.regrown_of (F := Fence.wide) (r := 0) (callsIn_wide.2 (cand_Has (withB B n) (k : Int) (grow (redrawn wc d) os)))
                        have kO := fun d os => CallsIn.regrown_of (F := Fence.wide) (r := 0) (callsIn_wide.2 (cand_Or B C (grow (redrawn wc d) os)))
                        have kA := fun d os => CallsIn.regrown_of (F := Fence.wide) (r := 0) (callsIn_wide.2 (cand_And B C (grow (redrawn wc d) os)))
                        have kW := fun d os => CallsIn.regrown_of (F := Fence.wide) (r := 0) (callsIn_wide.2 (cand_With B n (grow (redrawn wc d) os)))
                        simp only [v1, setC] at k1
                        simp only [v2, setC] at k2
                        simp only [v3, setC] at k3
                        simp only [v4, setC] at k4
                        simp only [setC] at kO kA kW
                        have K1 := Lib.hid k1
                        have K2 := Lib.hid k2
                        have K3 := Lib.hid k3
                        have K4 := Lib.hid k4
                        have KO := Lib.hid kO
                        have KA := Lib.hid kA
                        have KW := Lib.hid kW
                        have ke0 := cell_regrown x6
                        have ke1 := cell_regrown y6
                        have ka0 := cell_regrown a0
                        have ka1 := cell_regrown a1
                        have ka2 := cell_regrown a2
                        have ka3 := cell_regrown a3
                        have kb0 := cell_regrown b0
                        have kb1 := cell_regrown b1
                        have kb2 := cell_regrown b2
                        have kb3 := cell_regrown b3
                        clear k1 k2 k3 k4 kO kA kW hA6 hC6 v1 v2 v3 v4 x6 y6 a0 a1 a2 a3 b0 b1 b2 b3 hLT
                        refine wpIn_region_quietR (by kernel_rfl) (by kernel_rfl) (by kernel_rfl) ?_
                        repeat (first | gi_big_quiet_skip | ((first | gi_big_quiet_want | (refine BigFrame.wpQuietIn_want (fun _ _ _ _ => trivial) rfl ?_; intro K hK)); gi_big_quiet_op; first | go_big_quiet_on | (apply Exists.intro; refine ⟨fun _ => ?_, ?_⟩; (· first | (refine ⟨rfl, ?_⟩; first | (with_reducible exact K1.out _ _) | (with_reducible exact K2.out _ _) | (with_reducible exact K3.out _ _) | (with_reducible exact K4.out _ _) | (with_reducible exact KO.out _ _) | (with_reducible exact KA.out _ _) | (with_reducible exact KW.out _ _)) | (with_reducible exact K1.out _ _) | (with_reducible exact K2.out _ _) | (with_reducible exact K3.out _ _) | (with_reducible exact K4.out _ _) | (with_reducible exact KO.out _ _) | (with_reducible exact KA.out _ _) | (with_reducible exact KW.out _ _)); go_big_quiet_on)))
                        refine wpQuietIn_nil ?_
                        intro _ hw'
                        obtain ⟨⟨dq, osq⟩, hw''⟩ := hw'
                        subst hw''
                        clear K1 K2 K3 K4 KO KA KW ke0 ke1 ka0 ka1 ka2 ka3 kb0 kb1 kb2 kb3
                        have hb9 := below_regrown wc dq osq
                        generalize grow (redrawn wc dq) osq = w9 at *
                        have HLOW9 := Lib.hid (HLOW6.out.trans (hb9.mono (by have := HSZ6.out; omega)))
                        have HWC9 := Lib.hid (HWC6.out.on hb9)
                        have HOW9 := Lib.hid (HOW6.out.below hb9)
                        have HSZ9 := Lib.hid (Nat.le_trans HSZ6.out hb9.size)
                        clear hb9 HLOW6 HWC6 HOW6 HSZ6
                        gi_wp2_with fail
                        gi_roundg (256 - (k + 1))
                        case rel => exact ⟨k + 1, _, by omega, by go_num, by rw [sm, HSM.out, HBT.out, HCT.out]; rfl, by rw [HQ6.out] <;> go_num, Lib.hid rfl, HLOW9, HWC9, HOW9, HSZ9⟩
                        case measure => rw [← HZ.out]; omega
                    · as_aux_lemma =>
                        have c5 := sblk HWC5.out
                        obtain ⟨v', w6, hRn, hO, hB6⟩ := push_i HOW5.out (k : Int) (by rw [elI_len, HQ.out]; omega) HSZ5.out
                        obtain ⟨A', cap', rfl, -⟩ := hO.form
                        have hlen : (elI B k ++ [(k : Int)]).length = q + 1 := by rw [List.length_append, elI_len, HQ.out]; rfl
                        rw [hlen] at hRn hO
                        have HRN := Lib.hid hRn
                        have HO6 := Lib.hid hO
                        have hw6 := HWC5.out.below hB6 (by omega)
                        have d6 := sblk hw6
                        have f6 := hw6.free 0
                        have HW6 := Lib.hid hw6
                        have HB6 := Lib.hid hB6
                        clear hRn hO hB6 hw6 hlen
                        gi_wp2_with (first
                          | ((with_reducible refine is_appendIn 22 rfl ?_); (with_reducible refine wpListIn_append_run rfl rfl HRN.out ?_ ?_ ?_); (· rfl); (· rfl))
                          | fail)
                        have HWC6 := Lib.hid (HW6.out.put 0 (.slice A' (q + 1) cap'))
                        have HLOW6 := Lib.hid ((HLOW5.out.trans (HB6.out.mono (by omega))).setCell (p := ⟨G + 2, 0, none⟩) (Nat.le_refl _) (.slice A' (q + 1) cap'))
                        have HOW6 : RowKit.Hid (Own (w6.setCell ⟨G + 2, 0, none⟩ (.slice A' (q + 1) cap')) (G + 3) .i64 3 (.slice A' (q + 1) cap') (elI B (k + 1))) := Lib.hid (by
                          rw [elI_next HBT.out]
                          exact HO6.out.keep fun i hi _ => Below.heap_setCell w6 ⟨G + 2, 0, none⟩ _ i (by show i ≠ G + 2; omega))
                        have HSZ6 : RowKit.Hid (G + 3 ≤ (w6.setCell ⟨G + 2, 0, none⟩ (.slice A' (q + 1) cap')).heap.size) := Lib.hid (by have h1 := HB6.out.size; have h2 := HSZ5.out; simp [World.setCell]; omega)
                        have HQ6 := Lib.hid (show pcn B (k + 1) = q + 1 by rw [pcn_next HBT.out, HQ.out])
                        clear HW6 HB6 HO6 HRN d6 f6 c5 x5 HWC5 HLOW5 HOW5 HSZ5 HQ
                        generalize w6.setCell ⟨G + 2, 0, none⟩ (.slice A' (q + 1) cap') = wc at *
                        have hLT := HLT.out
                        have x6 := (HX0.out.below HLOW6.out (by omega)).cell hlt
                        have y6 := (HY0.out.below HLOW6.out (by omega)).cell hlt
                        simp only [HBT.out] at x6
                        simp only [HCT.out] at y6
                        have hA6 := HG1.out.below HLOW6.out (by omega)
                        have hC6 := HG2.out.below HLOW6.out (by omega)
                        unfold setC at hA6 hC6
                        obtain ⟨a0, a1, a2, a3, -⟩ := cells4 hA6
                        obtain ⟨b0, b1, b2, b3, -⟩ := cells4 hC6
                        obtain ⟨dn, hdn⟩ : ∃ dn, decide ((k : Int) = n) = dn := ⟨_, rfl⟩
                        have hdn' : ((k : Int) == n) = dn := by rw [← hdn]; rfl
                        have v1 : hasB B (k : Int) = true := by rw [hasB_nat _ _ hlt]; exact HBT.out
                        have v2 : hasB (B ||| C) (k : Int) = true := by rw [hasB_or, hasB_nat _ _ hlt, hasB_nat _ _ hlt, HBT.out, HCT.out]; rfl
                        have v3 : hasB (B &&& C) (k : Int) = false := by rw [hasB_and, hasB_nat _ _ hlt, hasB_nat _ _ hlt, HBT.out, HCT.out]; rfl
                        have v4 : hasB (withB B n) (k : Int) = true := by rw [hasB_with, v1, hdn, decide_eq_true hik.1, decide_eq_true hik.2]; rfl
                        have k1 := fun d os => CallsIn.regrown_of (F := Fence.wide) (r := 0) (callsIn_wide.2 (cand_Has B (k : Int) (grow (redrawn wc d) os)))
                        have k2 := fun d os => CallsIn.regrown_of (F := Fence.wide) (r := 0) (callsIn_wide.2 (cand_Has (B ||| C) (k : Int) (grow (redrawn wc d) os)))
                        have k3 := fun d os => CallsIn.regrown_of (F := Fence.wide) (r := 0) (callsIn_wide.2 (cand_Has (B &&& C) (k : Int) (grow (redrawn wc d) os)))
                        have k4 := fun d os => CallsIn.regrown_of (F := Fence.wide) (r := 0) (callsIn_wide.2 (cand_Has (withB B n) (k : Int) (grow (redrawn wc d) os)))
                        have kO := fun d os => CallsIn.regrown_of (F := Fence.wide) (r := 0) (callsIn_wide.2 (cand_Or B C (grow (redrawn wc d) os)))
                        have kA := fun d os => CallsIn.regrown_of (F := Fence.wide) (r := 0) (callsIn_wide.2 (cand_And B C (grow (redrawn wc d) os)))
                        have kW := fun d os => CallsIn.regrown_of (F := Fence.wide) (r := 0) (callsIn_wide.2 (cand_With B n (grow (redrawn wc d) os)))
                        simp only [v1, setC] at k1
                        simp only [v2, setC] at k2
                        simp only [v3, setC] at k3
                        simp only [v4, setC] at k4
                        simp only [setC] at kO kA kW
                        have K1 := Lib.hid k1
                        have K2 := Lib.hid k2
                        have K3 := Lib.hid k3
                        have K4 := Lib.hid k4
                        have KO := Lib.hid kO
                        have KA := Lib.hid kA
                        have KW := Lib.hid kW
                        have ke0 := cell_regrown x6
                        have ke1 := cell_regrown y6
                        have ka0 := cell_regrown a0
                        have ka1 := cell_regrown a1
                        have ka2 := cell_regrown a2
                        have ka3 := cell_regrown a3
                        have kb0 := cell_regrown b0
                        have kb1 := cell_regrown b1
                        have kb2 := cell_regrown b2
                        have kb3 := cell_regrown b3
                        clear k1 k2 k3 k4 kO kA kW hA6 hC6 v1 v2 v3 v4 x6 y6 a0 a1 a2 a3 b0 b1 b2 b3 hLT
                        refine wpIn_region_quietR (by kernel_rfl) (by kernel_rfl) (by kernel_rfl) ?_
                        repeat (first | gi_big_quiet_skip | ((first | gi_big_quiet_want | (refine BigFrame.wpQuietIn_want (fun _ _ _ _ => trivial) rfl ?_; intro K hK)); gi_big_quiet_op; first | go_big_quiet_on | (apply Exists.intro; refine ⟨fun _ => ?_, ?_⟩; (· first | (refine ⟨rfl, ?_⟩; first | (with_reducible exact K1.out _ _) | (with_reducible exact K2.out _ _) | (with_reducible exact K3.out _ _) | (with_reducible exact K4.out _ _) | (with_reducible exact KO.out _ _) | (with_reducible exact KA.out _ _) | (with_reducible exact KW.out _ _)) | (with_reducible exact K1.out _ _) | (with_reducible exact K2.out _ _) | (with_reducible exact K3.out _ _) | (with_reducible exact K4.out _ _) | (with_reducible exact KO.out _ _) | (with_reducible exact KA.out _ _) | (with_reducible exact KW.out _ _)); go_big_quiet_on)))
                        refine wpQuietIn_nil ?_
                        intro _ hw'
                        obtain ⟨⟨dq, osq⟩, hw''⟩ := hw'
                        subst hw''
                        clear K1 K2 K3 K4 KO KA KW ke0 ke1 ka0 ka1 ka2 ka3 kb0 kb1 kb2 kb3
                        have hb9 := below_regrown wc dq osq
                        generalize grow (redrawn wc dq) osq = w9 at *
                        have HLOW9 := Lib.hid (HLOW6.out.trans (hb9.mono (by have := HSZ6.out; omega)))
                        have HWC9 := Lib.hid (HWC6.out.on hb9)
                        have HOW9 := Lib.hid (HOW6.out.below hb9)
                        have HSZ9 := Lib.hid (Nat.le_trans HSZ6.out hb9.size)
                        clear hb9 HLOW6 HWC6 HOW6 HSZ6
                        gi_wp2_with fail
                        gi_roundg (256 - (k + 1))
                        case rel => exact ⟨k + 1, _, by omega, by go_num, by rw [sm, HSM.out, HBT.out, HCT.out]; rfl, by rw [HQ6.out] <;> go_num, Lib.hid rfl, HLOW9, HWC9, HOW9, HSZ9⟩
                        case measure => rw [← HZ.out]; omega
                    · as_aux_lemma =>
                        have c5 := sblk HWC5.out
                        obtain ⟨v', w6, hRn, hO, hB6⟩ := push_i HOW5.out (k : Int) (by rw [elI_len, HQ.out]; omega) HSZ5.out
                        obtain ⟨A', cap', rfl, -⟩ := hO.form
                        have hlen : (elI B k ++ [(k : Int)]).length = q + 1 := by rw [List.length_append, elI_len, HQ.out]; rfl
                        rw [hlen] at hRn hO
                        have HRN := Lib.hid hRn
                        have HO6 := Lib.hid hO
                        have hw6 := HWC5.out.below hB6 (by omega)
                        have d6 := sblk hw6
                        have f6 := hw6.free 0
                        have HW6 := Lib.hid hw6
                        have HB6 := Lib.hid hB6
                        clear hRn hO hB6 hw6 hlen
                        gi_wp2_with (first
                          | ((with_reducible refine is_appendIn 22 rfl ?_); (with_reducible refine wpListIn_append_run rfl rfl HRN.out ?_ ?_ ?_); (· rfl); (· rfl))
                          | fail)
                        have HWC6 := Lib.hid (HW6.out.put 0 (.slice A' (q + 1) cap'))
                        have HLOW6 := Lib.hid ((HLOW5.out.trans (HB6.out.mono (by omega))).setCell (p := ⟨G + 2, 0, none⟩) (Nat.le_refl _) (.slice A' (q + 1) cap'))
                        have HOW6 : RowKit.Hid (Own (w6.setCell ⟨G + 2, 0, none⟩ (.slice A' (q + 1) cap')) (G + 3) .i64 3 (.slice A' (q + 1) cap') (elI B (k + 1))) := Lib.hid (by
                          rw [elI_next HBT.out]
                          exact HO6.out.keep fun i hi _ => Below.heap_setCell w6 ⟨G + 2, 0, none⟩ _ i (by show i ≠ G + 2; omega))
                        have HSZ6 : RowKit.Hid (G + 3 ≤ (w6.setCell ⟨G + 2, 0, none⟩ (.slice A' (q + 1) cap')).heap.size) := Lib.hid (by have h1 := HB6.out.size; have h2 := HSZ5.out; simp [World.setCell]; omega)
                        have HQ6 := Lib.hid (show pcn B (k + 1) = q + 1 by rw [pcn_next HBT.out, HQ.out])
                        clear HW6 HB6 HO6 HRN d6 f6 c5 x5 HWC5 HLOW5 HOW5 HSZ5 HQ
                        generalize w6.setCell ⟨G + 2, 0, none⟩ (.slice A' (q + 1) cap') = wc at *
                        have hLT := HLT.out
                        have x6 := (HX0.out.below HLOW6.out (by omega)).cell hlt
                        have y6 := (HY0.out.below HLOW6.out (by omega)).cell hlt
                        simp only [HBT.out] at x6
                        simp only [HCT.out] at y6
                        have hA6 := HG1.out.below HLOW6.out (by omega)
                        have hC6 := HG2.out.below HLOW6.out (by omega)
                        unfold setC at hA6 hC6
                        obtain ⟨a0, a1, a2, a3, -⟩ := cells4 hA6
                        obtain ⟨b0, b1, b2, b3, -⟩ := cells4 hC6
                        obtain ⟨dn, hdn⟩ : ∃ dn, decide ((k : Int) = n) = dn := ⟨_, rfl⟩
                        have hdn' : ((k : Int) == n) = dn := by rw [← hdn]; rfl
                        have v1 : hasB B (k : Int) = true := by rw [hasB_nat _ _ hlt]; exact HBT.out
                        have v2 : hasB (B ||| C) (k : Int) = true := by rw [hasB_or, hasB_nat _ _ hlt, hasB_nat _ _ hlt, HBT.out, HCT.out]; rfl
                        have v3 : hasB (B &&& C) (k : Int) = true := by rw [hasB_and, hasB_nat _ _ hlt, hasB_nat _ _ hlt, HBT.out, HCT.out]; rfl
                        have v4 : hasB (withB B n) (k : Int) = true := by rw [hasB_with, v1, hdn, decide_eq_true hik.1, decide_eq_true hik.2]; rfl
                        have k1 := fun d os => CallsIn.regrown_of (F := Fence.wide) (r := 0) (callsIn_wide.2 (cand_Has B (k : Int) (grow (redrawn wc d) os)))
                        have k2 := fun d os => CallsIn.regrown_of (F := Fence.wide) (r := 0) (callsIn_wide.2 (cand_Has (B ||| C) (k : Int) (grow (redrawn wc d) os)))
                        have k3 := fun d os => CallsIn.regrown_of (F := Fence.wide) (r := 0) (callsIn_wide.2 (cand_Has (B &&& C) (k : Int) (grow (redrawn wc d) os)))
                        have k4 := fun d os => CallsIn.regrown_of (F := Fence.wide) (r := 0) (callsIn_wide.2 (cand_Has (withB B n) (k : Int) (grow (redrawn wc d) os)))
                        have kO := fun d os => CallsIn.regrown_of (F := Fence.wide) (r := 0) (callsIn_wide.2 (cand_Or B C (grow (redrawn wc d) os)))
                        have kA := fun d os => CallsIn.regrown_of (F := Fence.wide) (r := 0) (callsIn_wide.2 (cand_And B C (grow (redrawn wc d) os)))
                        have kW := fun d os => CallsIn.regrown_of (F := Fence.wide) (r := 0) (callsIn_wide.2 (cand_With B n (grow (redrawn wc d) os)))
                        simp only [v1, setC] at k1
                        simp only [v2, setC] at k2
                        simp only [v3, setC] at k3
                        simp only [v4, setC] at k4
                        simp only [setC] at kO kA kW
                        have K1 := Lib.hid k1
                        have K2 := Lib.hid k2
                        have K3 := Lib.hid k3
                        have K4 := Lib.hid k4
                        have KO := Lib.hid kO
                        have KA := Lib.hid kA
                        have KW := Lib.hid kW
                        have ke0 := cell_regrown x6
                        have ke1 := cell_regrown y6
                        have ka0 := cell_regrown a0
                        have ka1 := cell_regrown a1
                        have ka2 := cell_regrown a2
                        have ka3 := cell_regrown a3
                        have kb0 := cell_regrown b0
                        have kb1 := cell_regrown b1
                        have kb2 := cell_regrown b2
                        have kb3 := cell_regrown b3
                        clear k1 k2 k3 k4 kO kA kW hA6 hC6 v1 v2 v3 v4 x6 y6 a0 a1 a2 a3 b0 b1 b2 b3 hLT
                        refine wpIn_region_quietR (by kernel_rfl) (by kernel_rfl) (by kernel_rfl) ?_
                        repeat (first | gi_big_quiet_skip | ((first | gi_big_quiet_want | (refine BigFrame.wpQuietIn_want (fun _ _ _ _ => trivial) rfl ?_; intro K hK)); gi_big_quiet_op; first | go_big_quiet_on | (apply Exists.intro; refine ⟨fun _ => ?_, ?_⟩; (· first | (refine ⟨rfl, ?_⟩; first | (with_reducible exact K1.out _ _) | (with_reducible exact K2.out _ _) | (with_reducible exact K3.out _ _) | (with_reducible exact K4.out _ _) | (with_reducible exact KO.out _ _) | (with_reducible exact KA.out _ _) | (with_reducible exact KW.out _ _)) | (with_reducible exact K1.out _ _) | (with_reducible exact K2.out _ _) | (with_reducible exact K3.out _ _) | (with_reducible exact K4.out _ _) | (with_reducible exact KO.out _ _) | (with_reducible exact KA.out _ _) | (with_reducible exact KW.out _ _)); go_big_quiet_on)))
                        refine wpQuietIn_nil ?_
                        intro _ hw'
                        obtain ⟨⟨dq, osq⟩, hw''⟩ := hw'
                        subst hw''
                        clear K1 K2 K3 K4 KO KA KW ke0 ke1 ka0 ka1 ka2 ka3 kb0 kb1 kb2 kb3
                        have hb9 := below_regrown wc dq osq
                        generalize grow (redrawn wc dq) osq = w9 at *
                        have HLOW9 := Lib.hid (HLOW6.out.trans (hb9.mono (by have := HSZ6.out; omega)))
                        have HWC9 := Lib.hid (HWC6.out.on hb9)
                        have HOW9 := Lib.hid (HOW6.out.below hb9)
                        have HSZ9 := Lib.hid (Nat.le_trans HSZ6.out hb9.size)
                        clear hb9 HLOW6 HWC6 HOW6 HSZ6
                        gi_wp2_with fail
                        gi_roundg (256 - (k + 1))
                        case rel => exact ⟨k + 1, _, by omega, by go_num, by rw [sm, HSM.out, HBT.out, HCT.out]; rfl, by rw [HQ6.out] <;> go_num, Lib.hid rfl, HLOW9, HWC9, HOW9, HSZ9⟩
                        case measure => rw [← HZ.out]; omega
                  · have HKE := Lib.hid (show k = 256 by omega)
                    have HSK : RowKit.Hid (∀ W, (Op.equalIn 10000 27 (.agg (setC B)) (.agg (setC C))).run Try.prog W = .ok (sm B C k) W) := Lib.hid (fun W => by rw [HKE.out]; exact eq_sets (HL0.out ()) (HL1.out ()) W)
                    have HLE : RowKit.Hid (∀ W, Calls Try.prog 11 #[.agg (setC B)] W fun e w' => e = .returned (.int .i64 (pcn B k : Nat)) ∧ Below W.heap.size W w') := Lib.hid (fun W => by rw [HKE.out]; exact cand_Len B W)
                    have HALL := Lib.hid (fun W => cand_All B W)
                    have hLT := HLT.out
                    have HGX := Lib.hid (HX0.out.below HLOW.out (by omega))
                    have HA := Lib.hid (HG1.out.below HLOW.out (by omega))
                    have HB := Lib.hid (HG2.out.below HLOW.out (by omega))
                    obtain ⟨s, hs⟩ : ∃ s, sm B C k = s := ⟨_, rfl⟩
                    obtain ⟨q, hq⟩ : ∃ q, pcn B k = q := ⟨_, rfl⟩
                    have HQ := Lib.hid hq
                    rw [hs] at HSK ⊢
                    rw [hq] at HLE ⊢
                    have heq := HSK.out
                    unfold setC at heq
                    clear hs hq HSK hk
                    by_cases hn0 : 0 ≤ n
                    · by_cases hn1 : n < 256
                      · skip
                        obtain ⟨i, hi⟩ : ∃ i : Nat, n = i := ⟨n.toNat, by omega⟩
                        subst hi
                        have hi : i < 256 := by omega
                        have hin : 0 ≤ (i : Int) ∧ (i : Int) < 256 := by omega
                        obtain ⟨hb, hhb⟩ : ∃ hb, hasB B (i : Int) = hb := ⟨_, rfl⟩
                        have xn := HGX.out.cell hi
                        rw [← hasB_nat B i hi, hhb] at xn
                        have HXN := Lib.hid (fun W (h : Below wr.heap.size wr W) => by
                          have := (HGX.out.on h).cell hi
                          rwa [← hasB_nat B i hi, hhb] at this)
                        have HHN := Lib.hid (fun W => cand_Has B (i : Int) W)
                        rw [hhb] at HHN
                        unfold setC at HALL HLE HHN HA HB
                        obtain ⟨a0, a1, a2, a3, -⟩ := cells4 HA.out
                        gi_wp2_with (first
                          | (refine ⟨trivial, rfl, ?_⟩; gi_at_call 10; refine (callsIn_wide.2 (HALL.out _)).mono ?_; rintro e wa ⟨rfl, hka, hba⟩; have hfn := run_func_nil wr.heap.size; have HKA := Lib.hid hka; have hqwa : Below wr.heap.size wr wa := hba; obtain ⟨a0, a1, a2, a3, -⟩ := cells4 (HA.out.on hqwa); obtain ⟨b0, b1, b2, b3, -⟩ := cells4 (HB.out.on hqwa); have xn := HXN.out _ hqwa; have HQwa := Lib.hid hqwa; clear hqwa; clear hba hka)
                          | (refine ⟨trivial, rfl, ?_⟩; gi_at_call 11; refine (callsIn_wide.2 (HLE.out _)).mono ?_; rintro e wb ⟨rfl, hbb⟩; have HKB := Lib.hid (HKA.out.on hbb); have hqwb : Below wr.heap.size wr wb := HQwa.out.trans (hbb.mono HQwa.out.size); obtain ⟨a0, a1, a2, a3, -⟩ := cells4 (HA.out.on hqwb); obtain ⟨b0, b1, b2, b3, -⟩ := cells4 (HB.out.on hqwb); have xn := HXN.out _ hqwb; have HQwb := Lib.hid hqwb; clear hqwb; clear hbb)
                          | (refine ⟨trivial, rfl, ?_⟩; gi_at_call 6; refine (callsIn_wide.2 (HHN.out _)).mono ?_; rintro e wc ⟨rfl, hbc⟩; have HKC := Lib.hid (HKB.out.on hbc); have hqwc : Below wr.heap.size wr wc := HQwb.out.trans (hbc.mono HQwb.out.size); obtain ⟨a0, a1, a2, a3, -⟩ := cells4 (HA.out.on hqwc); obtain ⟨b0, b1, b2, b3, -⟩ := cells4 (HB.out.on hqwc); have xn := HXN.out _ hqwc; have HQwc := Lib.hid hqwc; clear hqwc; clear hbc)
                          | fail)
                        clear heq hLT
                        try clear xn
                        try clear HXN
                        obtain ⟨A', cap', hlv, -, -, -, -, hrd⟩ := (HOW.out.below HQwc.out).form
                        have hlen := elI_len B k
                        rw [HQ.out] at hlen
                        rw [hlen] at hlv
                        have hwc := HWC.out.on HQwc.out
                        rw [hlv] at hwc
                        have hfc := (HF0.out.below HLOW.out (by have := HLT.out; omega)).on HQwc.out
                        have hrc := (HR0.out.below HLOW.out (by have := HLT.out; omega)).on HQwc.out
                        have HEL := Lib.hid (show (elB B 256).length = q by rw [elB_len, ← HKE.out, HQ.out])
                        have HEI := Lib.hid (show elI B k = elI B 256 by rw [HKE.out])
                        have hbk := HKC.out.lt
                        have hszw := HQwc.out.size
                        have hszr := HSZ.out
                        have hLT := HLT.out
                        obtain ⟨R, hR⟩ : ∃ R, wc.heap.size = R := ⟨_, rfl⟩
                        obtain ⟨V0, hV0, v1, v2, v3⟩ : ∃ V0, wc.alloc (.cells #[.int .i64 0] 3) = V0 ∧ Blk V0 wc.heap.size 3 #[.int .i64 0] ∧ Below wc.heap.size wc V0 ∧ V0.heap.size = wc.heap.size + 1 := ⟨_, rfl, Blk.fresh _ _ _, below_alloc _ _, by simp⟩
                        rw [hV0]
                        obtain ⟨Bk, hBk⟩ : ∃ Bk, wr.heap.size = Bk := ⟨_, rfl⟩
                        rw [hR] at v1 v2 v3 hbk hszw hrd ⊢
                        rw [hBk] at HKC hbk hszw hszr ⊢
                        have HRD := Lib.hid hrd
                        have HWc := Lib.hid hwc
                        have HFc := Lib.hid hfc
                        have HRc := Lib.hid hrc
                        have HSc := Lib.hid (show Below w.heap.size w wc from (HS0.out.trans (HLOW.out.mono (by omega))).trans (HQwc.out.mono (by omega)))
                        have hfq := hfew
                        clear hlv hlen hwc hfc hrc hrd hV0 HOW HWC HQwa HQwb HQwc HKA HKB HLOW HSZ HA HB HGX HX0 HY0 HF0 HR0 HS0 HG1 HG2 HG3 HGZ HALL HLE HHN
                        refine wp_rangeBK (gf := 13) (lb := #[.pointer (some ⟨Bk, 0, none⟩)]) rfl (enters_of Try.func13 (by kernel_rfl) rfl)
                          (cand_seq B Bk R V0) (Below.refl _ _) (by omega) (fun _ => rfl)
                          (fun pre W => Blk W R 3 #[.int .i64 (pre.length : Nat)] ∧ Below R wc W ∧ (pre.length : Int) ≤ few)
                          (fun pre W => Blk W R 3 #[.int .i64 (pre.length : Nat)] ∧ Below R wc W ∧ (pre.length : Int) = few + 1) 6
                          (fun s W1 W2 ⟨k0, k1, k2⟩ hb => ⟨k0.below hb (by omega), k1.trans (hb.mono (by omega)), k2⟩)
                          (fun s W1 W2 ⟨k0, k1, k2⟩ hb => ⟨k0.below hb (by omega), k1.trans (hb.mono (by omega)), k2⟩)
                          (fun s W1 h => HKC.out.below h.2.1 hbk) ⟨v1, v2, by show (0 : Int) ≤ few; omega⟩
                          (fun a z => { tmps := (a.tmps.setIfInBounds 209 (.int .i64 ((z : Nat) : Int))).setIfInBounds 21 (.int .i64 ((z : Nat) : Int)), defers := [] })
                          ?assign ?body (fun _ _ h => h) ?out
                        case assign =>
                          intro l z W K hK
                          gi_wp2
                          exact hK
                        case body =>
                          rintro l pre z W ⟨k0, k1, k2⟩ hG hs hlen
                          obtain ⟨hat, hlt'⟩ := el_at hG
                          rw [HEL.out] at hlt'
                          have hzd : (elI B k).getD pre.length 0 = (z : Int) := by rw [HEI.out]; unfold elI; simp [List.getD, hat]
                          have hll : pre.length < (elI B k).length := by rw [elI_len, HQ.out]; exact hlt'
                          obtain ⟨bw, ow, rfl, hbw, cz⟩ := (HRD.out.below k1).get (i := pre.length) hll
                          rw [hzd] at cz
                          have HPL := Lib.hid (show (pre ++ [z]).length = pre.length + 1 by simp)
                          have HK0 := Lib.hid k0
                          have HK1 := Lib.hid k1
                          have ck : W.cell? ⟨R, 0, none⟩ = some (.int .i64 (pre.length : Nat)) := sblk k0
                          have fk := k0.free 0
                          have cw := sblk (HWc.out.below k1 (by omega))
                          have cf := sblk (HFc.out.below k1 (by omega))
                          clear hat hzd hll k0 k1 hG hlen
                          generalize pre.length = p at *
                          have hpq : (p : Int) < q := by omega
                          simp only [List.setIfInBounds_toArray, List.set_cons_succ, List.set_cons_zero]
                          by_cases hb : few < (p : Int) + 1
                          · gi_wp2_with fail
                            exact ⟨Rs.set W _ (Nat.le_refl _) (by omega), rfl, by rw [HPL.out]; have := HK0.out.put 0 (.int .i64 ((p : Int) + 1)); simpa using this, HK1.out.setCell (p := ⟨R, 0, none⟩) (Nat.le_refl _) _, by rw [HPL.out]; omega⟩
                          · gi_wp2_with fail
                            exact ⟨Rs.set W _ (Nat.le_refl _) (by omega), by rw [HPL.out]; have := HK0.out.put 0 (.int .i64 ((p : Int) + 1)); simpa using this, HK1.out.setCell (p := ⟨R, 0, none⟩) (Nat.le_refl _) _, by rw [HPL.out]; omega⟩
                        case out =>
                          intro W hs hor hK
                          obtain ⟨r, k0, k1, hr⟩ : ∃ r : Nat, Blk W R 3 #[.int .i64 (r : Nat)] ∧ Below R wc W ∧ (r : Int) = min (q : Int) (few + 1) := by
                            rcases hor with ⟨xs, hx, k0, k1, k2⟩ | ⟨pre, hp, k0, k1, k2⟩
                            · rw [hx, HEL.out] at k0 k2
                              exact ⟨q, k0, k1, by omega⟩
                            · have hle := hp.length_le
                              rw [HEL.out] at hle
                              exact ⟨pre.length, k0, k1, by omega⟩
                          have ck : W.cell? ⟨R, 0, none⟩ = some (.int .i64 (r : Nat)) := sblk k0
                          have cw := sblk (HWc.out.below k1 (by omega))
                          have cf := sblk (HFc.out.below k1 (by omega))
                          have cr := sblk (HRc.out.below k1 (by omega))
                          have fr := (HRc.out.below k1 (by omega)).free 0
                          have hsW : R ≤ W.heap.size := by rw [v3] at hs; omega
                          have HSW' := Lib.hid (HSc.out.trans (k1.mono (by omega)))
                          rw [v3] at hK hs
                          have hK' := (Below.heap_setCell W ⟨w.heap.size + 1, 0, none⟩ (.bool true) (R + 1) (by show R + 1 ≠ w.heap.size + 1; omega)).trans hK
                          have HKK := Lib.hid hK'
                          have HC5 : RowKit.Hid ((W.setCell ⟨w.heap.size + 1, 0, none⟩ (.bool true)).cell? ⟨w.heap.size + 1, 0, none⟩ = some (.bool true)) := Lib.hid (World.cell?_setCell_same _ _ _ cr)
                          have hmin : min (q : Int) (few + 1) ≤ 1000 := by omega
                          clear hor hK hK' k0 k1
                          gi_wp2_with fail
                          have HLU := Lib.hid (HSW'.out.setCell (p := ⟨w.heap.size + 1, 0, none⟩) (Nat.le_succ _) (.bool true))
                          have HSU : RowKit.Hid (R + 3 ≤ (W.setCell ⟨w.heap.size + 1, 0, none⟩ (.bool true)).heap.size) := Lib.hid (by simp [World.setCell]; omega)
                          generalize W.setCell ⟨w.heap.size + 1, 0, none⟩ (.bool true) = U at *
                          rw [v3]
                          refine ⟨by simp, .inl ⟨_, _, rfl, run_takeDeferred HKK.out, ?_⟩⟩
                          have hsu := HSU.out
                          have hend := put_below U (.deferred none) HLU.out (show w.heap.size ≤ R + 1 by omega) (by omega)
                          have hc5 : (U.putObj (R + 1) (.deferred none)).cell? ⟨w.heap.size + 1, 0, none⟩ = some (.bool true) := cell_kept' (World.putObj_heap_other (by omega)) HC5.out
                          refine ⟨.bool true, ?_, rfl, hend⟩
                          simp [results, Try.f3, go_sem, hc5]
                      · skip
                        obtain ⟨hb, hhb⟩ : ∃ hb, hasB B n = hb := ⟨_, rfl⟩
                        have hb0 : hasB B n = false := by unfold hasB; rw [decide_eq_false hn1]; cases decide (0 ≤ n) <;> rfl
                        rw [hb0] at hhb
                        subst hhb
                        have hn1 : 256 ≤ n := by omega
                        have HHN := Lib.hid (fun W => cand_Has B n W)
                        rw [hb0] at HHN
                        unfold setC at HALL HLE HHN HA HB
                        obtain ⟨a0, a1, a2, a3, -⟩ := cells4 HA.out
                        gi_wp2_with (first
                          | (refine ⟨trivial, rfl, ?_⟩; gi_at_call 10; refine (callsIn_wide.2 (HALL.out _)).mono ?_; rintro e wa ⟨rfl, hka, hba⟩; have hfn := run_func_nil wr.heap.size; have HKA := Lib.hid hka; have hqwa : Below wr.heap.size wr wa := hba; obtain ⟨a0, a1, a2, a3, -⟩ := cells4 (HA.out.on hqwa); obtain ⟨b0, b1, b2, b3, -⟩ := cells4 (HB.out.on hqwa); have HQwa := Lib.hid hqwa; clear hqwa; clear hba hka)
                          | (refine ⟨trivial, rfl, ?_⟩; gi_at_call 11; refine (callsIn_wide.2 (HLE.out _)).mono ?_; rintro e wb ⟨rfl, hbb⟩; have HKB := Lib.hid (HKA.out.on hbb); have hqwb : Below wr.heap.size wr wb := HQwa.out.trans (hbb.mono HQwa.out.size); obtain ⟨a0, a1, a2, a3, -⟩ := cells4 (HA.out.on hqwb); obtain ⟨b0, b1, b2, b3, -⟩ := cells4 (HB.out.on hqwb); have HQwb := Lib.hid hqwb; clear hqwb; clear hbb)
                          | (refine ⟨trivial, rfl, ?_⟩; gi_at_call 6; refine (callsIn_wide.2 (HHN.out _)).mono ?_; rintro e wc ⟨rfl, hbc⟩; have HKC := Lib.hid (HKB.out.on hbc); have hqwc : Below wr.heap.size wr wc := HQwb.out.trans (hbc.mono HQwb.out.size); obtain ⟨a0, a1, a2, a3, -⟩ := cells4 (HA.out.on hqwc); obtain ⟨b0, b1, b2, b3, -⟩ := cells4 (HB.out.on hqwc); have HQwc := Lib.hid hqwc; clear hqwc; clear hbc)
                          | fail)
                        clear heq hLT
                        try clear xn
                        try clear HXN
                        obtain ⟨A', cap', hlv, -, -, -, -, hrd⟩ := (HOW.out.below HQwc.out).form
                        have hlen := elI_len B k
                        rw [HQ.out] at hlen
                        rw [hlen] at hlv
                        have hwc := HWC.out.on HQwc.out
                        rw [hlv] at hwc
                        have hfc := (HF0.out.below HLOW.out (by have := HLT.out; omega)).on HQwc.out
                        have hrc := (HR0.out.below HLOW.out (by have := HLT.out; omega)).on HQwc.out
                        have HEL := Lib.hid (show (elB B 256).length = q by rw [elB_len, ← HKE.out, HQ.out])
                        have HEI := Lib.hid (show elI B k = elI B 256 by rw [HKE.out])
                        have hbk := HKC.out.lt
                        have hszw := HQwc.out.size
                        have hszr := HSZ.out
                        have hLT := HLT.out
                        obtain ⟨R, hR⟩ : ∃ R, wc.heap.size = R := ⟨_, rfl⟩
                        obtain ⟨V0, hV0, v1, v2, v3⟩ : ∃ V0, wc.alloc (.cells #[.int .i64 0] 3) = V0 ∧ Blk V0 wc.heap.size 3 #[.int .i64 0] ∧ Below wc.heap.size wc V0 ∧ V0.heap.size = wc.heap.size + 1 := ⟨_, rfl, Blk.fresh _ _ _, below_alloc _ _, by simp⟩
                        rw [hV0]
                        obtain ⟨Bk, hBk⟩ : ∃ Bk, wr.heap.size = Bk := ⟨_, rfl⟩
                        rw [hR] at v1 v2 v3 hbk hszw hrd ⊢
                        rw [hBk] at HKC hbk hszw hszr ⊢
                        have HRD := Lib.hid hrd
                        have HWc := Lib.hid hwc
                        have HFc := Lib.hid hfc
                        have HRc := Lib.hid hrc
                        have HSc := Lib.hid (show Below w.heap.size w wc from (HS0.out.trans (HLOW.out.mono (by omega))).trans (HQwc.out.mono (by omega)))
                        have hfq := hfew
                        clear hlv hlen hwc hfc hrc hrd hV0 HOW HWC HQwa HQwb HQwc HKA HKB HLOW HSZ HA HB HGX HX0 HY0 HF0 HR0 HS0 HG1 HG2 HG3 HGZ HALL HLE HHN
                        refine wp_rangeBK (gf := 13) (lb := #[.pointer (some ⟨Bk, 0, none⟩)]) rfl (enters_of Try.func13 (by kernel_rfl) rfl)
                          (cand_seq B Bk R V0) (Below.refl _ _) (by omega) (fun _ => rfl)
                          (fun pre W => Blk W R 3 #[.int .i64 (pre.length : Nat)] ∧ Below R wc W ∧ (pre.length : Int) ≤ few)
                          (fun pre W => Blk W R 3 #[.int .i64 (pre.length : Nat)] ∧ Below R wc W ∧ (pre.length : Int) = few + 1) 6
                          (fun s W1 W2 ⟨k0, k1, k2⟩ hb => ⟨k0.below hb (by omega), k1.trans (hb.mono (by omega)), k2⟩)
                          (fun s W1 W2 ⟨k0, k1, k2⟩ hb => ⟨k0.below hb (by omega), k1.trans (hb.mono (by omega)), k2⟩)
                          (fun s W1 h => HKC.out.below h.2.1 hbk) ⟨v1, v2, by show (0 : Int) ≤ few; omega⟩
                          (fun a z => { tmps := (a.tmps.setIfInBounds 209 (.int .i64 ((z : Nat) : Int))).setIfInBounds 21 (.int .i64 ((z : Nat) : Int)), defers := [] })
                          ?assign ?body (fun _ _ h => h) ?out
                        case assign =>
                          intro l z W K hK
                          gi_wp2
                          exact hK
                        case body =>
                          rintro l pre z W ⟨k0, k1, k2⟩ hG hs hlen
                          obtain ⟨hat, hlt'⟩ := el_at hG
                          rw [HEL.out] at hlt'
                          have hzd : (elI B k).getD pre.length 0 = (z : Int) := by rw [HEI.out]; unfold elI; simp [List.getD, hat]
                          have hll : pre.length < (elI B k).length := by rw [elI_len, HQ.out]; exact hlt'
                          obtain ⟨bw, ow, rfl, hbw, cz⟩ := (HRD.out.below k1).get (i := pre.length) hll
                          rw [hzd] at cz
                          have HPL := Lib.hid (show (pre ++ [z]).length = pre.length + 1 by simp)
                          have HK0 := Lib.hid k0
                          have HK1 := Lib.hid k1
                          have ck : W.cell? ⟨R, 0, none⟩ = some (.int .i64 (pre.length : Nat)) := sblk k0
                          have fk := k0.free 0
                          have cw := sblk (HWc.out.below k1 (by omega))
                          have cf := sblk (HFc.out.below k1 (by omega))
                          clear hat hzd hll k0 k1 hG hlen
                          generalize pre.length = p at *
                          have hpq : (p : Int) < q := by omega
                          simp only [List.setIfInBounds_toArray, List.set_cons_succ, List.set_cons_zero]
                          by_cases hb : few < (p : Int) + 1
                          · gi_wp2_with fail
                            exact ⟨Rs.set W _ (Nat.le_refl _) (by omega), rfl, by rw [HPL.out]; have := HK0.out.put 0 (.int .i64 ((p : Int) + 1)); simpa using this, HK1.out.setCell (p := ⟨R, 0, none⟩) (Nat.le_refl _) _, by rw [HPL.out]; omega⟩
                          · gi_wp2_with fail
                            exact ⟨Rs.set W _ (Nat.le_refl _) (by omega), by rw [HPL.out]; have := HK0.out.put 0 (.int .i64 ((p : Int) + 1)); simpa using this, HK1.out.setCell (p := ⟨R, 0, none⟩) (Nat.le_refl _) _, by rw [HPL.out]; omega⟩
                        case out =>
                          intro W hs hor hK
                          obtain ⟨r, k0, k1, hr⟩ : ∃ r : Nat, Blk W R 3 #[.int .i64 (r : Nat)] ∧ Below R wc W ∧ (r : Int) = min (q : Int) (few + 1) := by
                            rcases hor with ⟨xs, hx, k0, k1, k2⟩ | ⟨pre, hp, k0, k1, k2⟩
                            · rw [hx, HEL.out] at k0 k2
                              exact ⟨q, k0, k1, by omega⟩
                            · have hle := hp.length_le
                              rw [HEL.out] at hle
                              exact ⟨pre.length, k0, k1, by omega⟩
                          have ck : W.cell? ⟨R, 0, none⟩ = some (.int .i64 (r : Nat)) := sblk k0
                          have cw := sblk (HWc.out.below k1 (by omega))
                          have cf := sblk (HFc.out.below k1 (by omega))
                          have cr := sblk (HRc.out.below k1 (by omega))
                          have fr := (HRc.out.below k1 (by omega)).free 0
                          have hsW : R ≤ W.heap.size := by rw [v3] at hs; omega
                          have HSW' := Lib.hid (HSc.out.trans (k1.mono (by omega)))
                          rw [v3] at hK hs
                          have hK' := (Below.heap_setCell W ⟨w.heap.size + 1, 0, none⟩ (.bool true) (R + 1) (by show R + 1 ≠ w.heap.size + 1; omega)).trans hK
                          have HKK := Lib.hid hK'
                          have HC5 : RowKit.Hid ((W.setCell ⟨w.heap.size + 1, 0, none⟩ (.bool true)).cell? ⟨w.heap.size + 1, 0, none⟩ = some (.bool true)) := Lib.hid (World.cell?_setCell_same _ _ _ cr)
                          have hmin : min (q : Int) (few + 1) ≤ 1000 := by omega
                          clear hor hK hK' k0 k1
                          gi_wp2_with fail
                          have HLU := Lib.hid (HSW'.out.setCell (p := ⟨w.heap.size + 1, 0, none⟩) (Nat.le_succ _) (.bool true))
                          have HSU : RowKit.Hid (R + 3 ≤ (W.setCell ⟨w.heap.size + 1, 0, none⟩ (.bool true)).heap.size) := Lib.hid (by simp [World.setCell]; omega)
                          generalize W.setCell ⟨w.heap.size + 1, 0, none⟩ (.bool true) = U at *
                          rw [v3]
                          refine ⟨by simp, .inl ⟨_, _, rfl, run_takeDeferred HKK.out, ?_⟩⟩
                          have hsu := HSU.out
                          have hend := put_below U (.deferred none) HLU.out (show w.heap.size ≤ R + 1 by omega) (by omega)
                          have hc5 : (U.putObj (R + 1) (.deferred none)).cell? ⟨w.heap.size + 1, 0, none⟩ = some (.bool true) := cell_kept' (World.putObj_heap_other (by omega)) HC5.out
                          refine ⟨.bool true, ?_, rfl, hend⟩
                          simp [results, Try.f3, go_sem, hc5]
                    · skip
                      obtain ⟨hb, hhb⟩ : ∃ hb, hasB B n = hb := ⟨_, rfl⟩
                      have hb0 : hasB B n = false := by unfold hasB; rw [decide_eq_false hn0]; rfl
                      rw [hb0] at hhb
                      subst hhb
                      have hn0 : n < 0 := by omega
                      have HHN := Lib.hid (fun W => cand_Has B n W)
                      rw [hb0] at HHN
                      unfold setC at HALL HLE HHN HA HB
                      obtain ⟨a0, a1, a2, a3, -⟩ := cells4 HA.out
                      gi_wp2_with (first
                        | (refine ⟨trivial, rfl, ?_⟩; gi_at_call 10; refine (callsIn_wide.2 (HALL.out _)).mono ?_; rintro e wa ⟨rfl, hka, hba⟩; have hfn := run_func_nil wr.heap.size; have HKA := Lib.hid hka; have hqwa : Below wr.heap.size wr wa := hba; obtain ⟨a0, a1, a2, a3, -⟩ := cells4 (HA.out.on hqwa); obtain ⟨b0, b1, b2, b3, -⟩ := cells4 (HB.out.on hqwa); have HQwa := Lib.hid hqwa; clear hqwa; clear hba hka)
                        | (refine ⟨trivial, rfl, ?_⟩; gi_at_call 11; refine (callsIn_wide.2 (HLE.out _)).mono ?_; rintro e wb ⟨rfl, hbb⟩; have HKB := Lib.hid (HKA.out.on hbb); have hqwb : Below wr.heap.size wr wb := HQwa.out.trans (hbb.mono HQwa.out.size); obtain ⟨a0, a1, a2, a3, -⟩ := cells4 (HA.out.on hqwb); obtain ⟨b0, b1, b2, b3, -⟩ := cells4 (HB.out.on hqwb); have HQwb := Lib.hid hqwb; clear hqwb; clear hbb)
                        | (refine ⟨trivial, rfl, ?_⟩; gi_at_call 6; refine (callsIn_wide.2 (HHN.out _)).mono ?_; rintro e wc ⟨rfl, hbc⟩; have HKC := Lib.hid (HKB.out.on hbc); have hqwc : Below wr.heap.size wr wc := HQwb.out.trans (hbc.mono HQwb.out.size); obtain ⟨a0, a1, a2, a3, -⟩ := cells4 (HA.out.on hqwc); obtain ⟨b0, b1, b2, b3, -⟩ := cells4 (HB.out.on hqwc); have HQwc := Lib.hid hqwc; clear hqwc; clear hbc)
                        | fail)
                      clear heq hLT
                      try clear xn
                      try clear HXN
                      obtain ⟨A', cap', hlv, -, -, -, -, hrd⟩ := (HOW.out.below HQwc.out).form
                      have hlen := elI_len B k
                      rw [HQ.out] at hlen
                      rw [hlen] at hlv
                      have hwc := HWC.out.on HQwc.out
                      rw [hlv] at hwc
                      have hfc := (HF0.out.below HLOW.out (by have := HLT.out; omega)).on HQwc.out
                      have hrc := (HR0.out.below HLOW.out (by have := HLT.out; omega)).on HQwc.out
                      have HEL := Lib.hid (show (elB B 256).length = q by rw [elB_len, ← HKE.out, HQ.out])
                      have HEI := Lib.hid (show elI B k = elI B 256 by rw [HKE.out])
                      have hbk := HKC.out.lt
                      have hszw := HQwc.out.size
                      have hszr := HSZ.out
                      have hLT := HLT.out
                      obtain ⟨R, hR⟩ : ∃ R, wc.heap.size = R := ⟨_, rfl⟩
                      obtain ⟨V0, hV0, v1, v2, v3⟩ : ∃ V0, wc.alloc (.cells #[.int .i64 0] 3) = V0 ∧ Blk V0 wc.heap.size 3 #[.int .i64 0] ∧ Below wc.heap.size wc V0 ∧ V0.heap.size = wc.heap.size + 1 := ⟨_, rfl, Blk.fresh _ _ _, below_alloc _ _, by simp⟩
                      rw [hV0]
                      obtain ⟨Bk, hBk⟩ : ∃ Bk, wr.heap.size = Bk := ⟨_, rfl⟩
                      rw [hR] at v1 v2 v3 hbk hszw hrd ⊢
                      rw [hBk] at HKC hbk hszw hszr ⊢
                      have HRD := Lib.hid hrd
                      have HWc := Lib.hid hwc
                      have HFc := Lib.hid hfc
                      have HRc := Lib.hid hrc
                      have HSc := Lib.hid (show Below w.heap.size w wc from (HS0.out.trans (HLOW.out.mono (by omega))).trans (HQwc.out.mono (by omega)))
                      have hfq := hfew
                      clear hlv hlen hwc hfc hrc hrd hV0 HOW HWC HQwa HQwb HQwc HKA HKB HLOW HSZ HA HB HGX HX0 HY0 HF0 HR0 HS0 HG1 HG2 HG3 HGZ HALL HLE HHN
                      refine wp_rangeBK (gf := 13) (lb := #[.pointer (some ⟨Bk, 0, none⟩)]) rfl (enters_of Try.func13 (by kernel_rfl) rfl)
                        (cand_seq B Bk R V0) (Below.refl _ _) (by omega) (fun _ => rfl)
                        (fun pre W => Blk W R 3 #[.int .i64 (pre.length : Nat)] ∧ Below R wc W ∧ (pre.length : Int) ≤ few)
                        (fun pre W => Blk W R 3 #[.int .i64 (pre.length : Nat)] ∧ Below R wc W ∧ (pre.length : Int) = few + 1) 6
                        (fun s W1 W2 ⟨k0, k1, k2⟩ hb => ⟨k0.below hb (by omega), k1.trans (hb.mono (by omega)), k2⟩)
                        (fun s W1 W2 ⟨k0, k1, k2⟩ hb => ⟨k0.below hb (by omega), k1.trans (hb.mono (by omega)), k2⟩)
                        (fun s W1 h => HKC.out.below h.2.1 hbk) ⟨v1, v2, by show (0 : Int) ≤ few; omega⟩
                        (fun a z => { tmps := (a.tmps.setIfInBounds 209 (.int .i64 ((z : Nat) : Int))).setIfInBounds 21 (.int .i64 ((z : Nat) : Int)), defers := [] })
                        ?assign ?body (fun _ _ h => h) ?out
                      case assign =>
                        intro l z W K hK
                        gi_wp2
                        exact hK
                      case body =>
                        rintro l pre z W ⟨k0, k1, k2⟩ hG hs hlen
                        obtain ⟨hat, hlt'⟩ := el_at hG
                        rw [HEL.out] at hlt'
                        have hzd : (elI B k).getD pre.length 0 = (z : Int) := by rw [HEI.out]; unfold elI; simp [List.getD, hat]
                        have hll : pre.length < (elI B k).length := by rw [elI_len, HQ.out]; exact hlt'
                        obtain ⟨bw, ow, rfl, hbw, cz⟩ := (HRD.out.below k1).get (i := pre.length) hll
                        rw [hzd] at cz
                        have HPL := Lib.hid (show (pre ++ [z]).length = pre.length + 1 by simp)
                        have HK0 := Lib.hid k0
                        have HK1 := Lib.hid k1
                        have ck : W.cell? ⟨R, 0, none⟩ = some (.int .i64 (pre.length : Nat)) := sblk k0
                        have fk := k0.free 0
                        have cw := sblk (HWc.out.below k1 (by omega))
                        have cf := sblk (HFc.out.below k1 (by omega))
                        clear hat hzd hll k0 k1 hG hlen
                        generalize pre.length = p at *
                        have hpq : (p : Int) < q := by omega
                        simp only [List.setIfInBounds_toArray, List.set_cons_succ, List.set_cons_zero]
                        by_cases hb : few < (p : Int) + 1
                        · gi_wp2_with fail
                          exact ⟨Rs.set W _ (Nat.le_refl _) (by omega), rfl, by rw [HPL.out]; have := HK0.out.put 0 (.int .i64 ((p : Int) + 1)); simpa using this, HK1.out.setCell (p := ⟨R, 0, none⟩) (Nat.le_refl _) _, by rw [HPL.out]; omega⟩
                        · gi_wp2_with fail
                          exact ⟨Rs.set W _ (Nat.le_refl _) (by omega), by rw [HPL.out]; have := HK0.out.put 0 (.int .i64 ((p : Int) + 1)); simpa using this, HK1.out.setCell (p := ⟨R, 0, none⟩) (Nat.le_refl _) _, by rw [HPL.out]; omega⟩
                      case out =>
                        intro W hs hor hK
                        obtain ⟨r, k0, k1, hr⟩ : ∃ r : Nat, Blk W R 3 #[.int .i64 (r : Nat)] ∧ Below R wc W ∧ (r : Int) = min (q : Int) (few + 1) := by
                          rcases hor with ⟨xs, hx, k0, k1, k2⟩ | ⟨pre, hp, k0, k1, k2⟩
                          · rw [hx, HEL.out] at k0 k2
                            exact ⟨q, k0, k1, by omega⟩
                          · have hle := hp.length_le
                            rw [HEL.out] at hle
                            exact ⟨pre.length, k0, k1, by omega⟩
                        have ck : W.cell? ⟨R, 0, none⟩ = some (.int .i64 (r : Nat)) := sblk k0
                        have cw := sblk (HWc.out.below k1 (by omega))
                        have cf := sblk (HFc.out.below k1 (by omega))
                        have cr := sblk (HRc.out.below k1 (by omega))
                        have fr := (HRc.out.below k1 (by omega)).free 0
                        have hsW : R ≤ W.heap.size := by rw [v3] at hs; omega
                        have HSW' := Lib.hid (HSc.out.trans (k1.mono (by omega)))
                        rw [v3] at hK hs
                        have hK' := (Below.heap_setCell W ⟨w.heap.size + 1, 0, none⟩ (.bool true) (R + 1) (by show R + 1 ≠ w.heap.size + 1; omega)).trans hK
                        have HKK := Lib.hid hK'
                        have HC5 : RowKit.Hid ((W.setCell ⟨w.heap.size + 1, 0, none⟩ (.bool true)).cell? ⟨w.heap.size + 1, 0, none⟩ = some (.bool true)) := Lib.hid (World.cell?_setCell_same _ _ _ cr)
                        have hmin : min (q : Int) (few + 1) ≤ 1000 := by omega
                        clear hor hK hK' k0 k1
                        gi_wp2_with fail
                        have HLU := Lib.hid (HSW'.out.setCell (p := ⟨w.heap.size + 1, 0, none⟩) (Nat.le_succ _) (.bool true))
                        have HSU : RowKit.Hid (R + 3 ≤ (W.setCell ⟨w.heap.size + 1, 0, none⟩ (.bool true)).heap.size) := Lib.hid (by simp [World.setCell]; omega)
                        generalize W.setCell ⟨w.heap.size + 1, 0, none⟩ (.bool true) = U at *
                        rw [v3]
                        refine ⟨by simp, .inl ⟨_, _, rfl, run_takeDeferred HKK.out, ?_⟩⟩
                        have hsu := HSU.out
                        have hend := put_below U (.deferred none) HLU.out (show w.heap.size ≤ R + 1 by omega) (by omega)
                        have hc5 : (U.putObj (R + 1) (.deferred none)).cell? ⟨w.heap.size + 1, 0, none⟩ = some (.bool true) := cell_kept' (World.putObj_heap_other (by omega)) HC5.out
                        refine ⟨.bool true, ?_, rfl, hend⟩
                        simp [results, Try.f3, go_sem, hc5]
    · have q0 : (m0 : Int) ≤ 600 := by omega
      have q1 : 600 < (m1 : Int) := by omega
      clear h0 h1
      gi_wp2_with (first
        | (refine ⟨trivial, rfl, ?_⟩; gi_at_call 4; refine (callsIn_wide.2 HAW.out).mono ?_; rintro e w3 ⟨rfl, hb3⟩; have HS3 := Lib.hid (HS.out.trans (hb3.mono HS.out.size)); have HB13 := Lib.hid (HB1.out.on hb3); have HB23 := Lib.hid (HB2.out.on hb3); have d3 := sblk HB23.out; have f3 := HB23.out.free 0; clear hb3)
        | fail)
      have HC5 : (w3.setCell ⟨w.heap.size + 1, 0, none⟩ (.bool true)).cell? ⟨w.heap.size + 1, 0, none⟩ = some (.bool true) := World.cell?_setCell_same _ _ _ d3
      refine ⟨.bool true, ?_, rfl, HS3.out.setCell (p := ⟨w.heap.size + 1, 0, none⟩) (Nat.le_succ _) _⟩
      simp [results, Try.f3, go_sem, HC5]
  · have q0 : 600 < (m0 : Int) := by omega
    clear h0
    gi_wp2_with (first
      | (refine ⟨trivial, rfl, ?_⟩; gi_at_call 4; refine (callsIn_wide.2 HAW.out).mono ?_; rintro e w3 ⟨rfl, hb3⟩; have HS3 := Lib.hid (HS.out.trans (hb3.mono HS.out.size)); have HB13 := Lib.hid (HB1.out.on hb3); have HB23 := Lib.hid (HB2.out.on hb3); have d3 := sblk HB23.out; have f3 := HB23.out.free 0; clear hb3)
      | fail)
    have HC5 : (w3.setCell ⟨w.heap.size + 1, 0, none⟩ (.bool true)).cell? ⟨w.heap.size + 1, 0, none⟩ = some (.bool true) := World.cell?_setCell_same _ _ _ d3
    refine ⟨.bool true, ?_, rfl, HS3.out.setCell (p := ⟨w.heap.size + 1, 0, none⟩) (Nat.le_succ _) _⟩
    simp [results, Try.f3, go_sem, HC5]
theorem own : ownKnob Try.prog.godebug = none := by kernel_rfl
theorem laidOut : laidOutB Try.prog = true := by kernel_rfl
theorem cells_int : Try.prog.cellsOf 3 = 1 := by kernel_rfl
set_option maxRecDepth 100000 in
theorem lifted (os : Os) (started : os.Started) (H : Type) (enc : TypeId × Value → H) :
    ReturnsInHanded {} Try.checked os 3 .any (Rows.candSetsSpec.pre6 enc Try.prog Try.f3 Rows.candSetsRow.domain false) (Rows.candSetsSpec.post enc Try.prog Try.f3 false true false false) := by
  refine returnsInHanded_of_change (C := Try.checked) own started (by kernel_rfl) Try.func3
    (ChangeSpec.witness6 (enc := enc) (C := Try.checked) false ⟨#[], #[.slice none 0 0, .slice none 0 0, .int .i64 0, .int .u8 0], []⟩ 8 (by kernel_rfl) (by kernel_rfl) (by kernel_rfl) (by kernel_rfl)) ?_
  intro W base args ds gs before hval0 hW _ _
  have hval : ∀ (j : Nat) t v, Try.f3.params[j]? = some t → args[j]? = some v → Value.okWide Try.prog W .any base t v := hval0
  have hlt := hW.lt
  have hW' := hW
  obtain ⟨p, q, hA0, hV, hpq, _, _⟩ := hW
  have hA : DataW.TrodAll enc Try.prog W 0 (fun _ => true) true Try.f3.params.toList args.toList ds p := hA0
  rw [Try.params3] at hA hval
  obtain ⟨v0, vs0, d0, ds0, p0, q0, hargs, rfl, rfl, h0, r0⟩ := trodAll_cons hA
  obtain ⟨v1, vs1, d1, ds1, p1, q1, rfl, rfl, rfl, h1, r1⟩ := trodAll_cons r0
  obtain ⟨v2, vs2, d2, ds2, p2, q2, rfl, rfl, rfl, h2, r2⟩ := trodAll_cons r1
  obtain ⟨v3, vs3, d3, ds3, p3, q3, rfl, rfl, rfl, h3, r3⟩ := trodAll_cons r2
  obtain ⟨rfl, rfl, rfl⟩ := trodAll_nil r3
  obtain rfl : args = #[v0, v1, v2, v3] := by cases args; simp_all
  obtain ⟨rfl, rfl⟩ := trodVars_none hV
  obtain ⟨A0, cap0, zs0, rfl, hl0, hcap0, hnil0, hr0, hw0⟩ := open_nums' Try.underlying22 Try.underlying3 cells_int (hval 0 22 v0 rfl rfl) h0 (fun x hx => hlt x (by rw [hpq]; simp [hx]))
  have hz0 := hw0
  obtain ⟨A1, cap1, zs1, rfl, hl1, hcap1, hnil1, hr1, hw1⟩ := open_nums' Try.underlying22 Try.underlying3 cells_int (hval 1 22 v1 rfl rfl) h1 (fun x hx => hlt x (by rw [hpq]; simp [hx]))
  have hz1 := hw1
  obtain ⟨a2, rfl, rfl, rfl, w2⟩ := open_int Try.underlying3 (hval 2 3 v2 rfl rfl) h2
  have b2 : -9223372036854775808 ≤ a2 ∧ a2 ≤ 9223372036854775807 := by simpa [Lit.wf, IntKind.min, IntKind.max, IntKind.bits, IntKind.signed] using w2
  obtain ⟨a3, rfl, rfl, rfl, w3⟩ := open_int Try.underlying5 (hval 3 5 v3 rfl rfl) h3
  have b3 : 0 ≤ a3 ∧ a3 ≤ 255 := by simpa [Lit.wf, IntKind.min, IntKind.max, IntKind.bits, IntKind.signed] using w3
  refine (walk W A0 cap0 zs0 hcap0 hr0 A1 cap1 zs1 hcap1 hr1 a2 b2 a3 b3).mono fun e W' ⟨he, hbl⟩ => ?_
  subst he
  exact ⟨_, rfl, law_post laidOut (by kernel_rfl) rfl (by kernel_rfl) Try.underlying4 rfl rfl rfl hW' hbl⟩

theorem over : Rows.candSetsRow.holds Try.pinned (OpenSpec.ofChange Rows.candSetsSpec) :=
  OpenClaim.holds_of_wide 3 Try.f3 rfl rfl rfl rfl rfl rfl rfl ⟨rfl, rfl, rfl, rfl, rfl⟩ rfl rfl rfl rfl rfl (by kernel_rfl) Try.func3 (by kernel_rfl)
    (of_decide_eq_true (by kernel_rfl)) (by unfold Func.isWrapper; first | (rw [if_pos (by decide +kernel)]; kernel_rfl) | (rw [if_neg (by decide +kernel)]; exact ⟨rfl, rfl⟩))
    (fun os started H enc _ => lifted os started H enc)

/-- The statement. -/
theorem proved : Rows.CandSetsSaid := over
#print axioms proved
end Go.Proofs.Ytmihoeholcaokaa.candSets
