/-
  PROVED: the law SchemaLeads returns true for every schema and number that are together of bulk at most 1048576, and leaves the schema as it was (Rows.SchemaLeadsUptoSaid). Conditions: none beside the row's own.
-/
import Derived.Test.YtgbbgdjdomkohaaKBL
import Derived.Test.YtgbbgdjdomkohaaKBM
import Derived.JoinedCond
namespace Go.Proofs.Ytgbbgdjdomkohaa.schemaLeads
open Go.ChangeShapes Go.WideShapes Go.ChangeAt Go.RowKit Go.Sort

/-- What is wanted of the first k. -/
noncomputable def wantL (xs : List Nd) (a : Int) (k : Nat) : List Int := if a < 0 ∨ (xs.length : Int) ≤ a then [] else ldL xs a.toNat k
set_option maxHeartbeats 8000000 in
set_option maxRecDepth 100000 in
theorem walk (xs : List Nd) (A : Option Addr) (cap : Nat) (a : Int) (w : World) (hx : RdN w w.heap.size A xs) (hox : ∀ x ∈ xs, okN x) (hlx : xs.length ≤ 1048576) (_ha : -9223372036854775808 ≤ a ∧ a ≤ 9223372036854775807) :
    Calls Try.prog 4 #[vS A xs cap, .int .i64 a] w fun e w' => e = .returned (.bool true) ∧ Below w.heap.size w w' := by
  obtain ⟨w1, hw1, b1, S⟩ := iblk1 w 24 #[.slice A xs.length cap]
  have HA := Lib.hid (fun W => sch_awake W)
  have HS := Lib.hid S
  have HUP : Hid (∀ W, Below w1.heap.size w1 W → Below w.heap.size w W) := Lib.hid fun W hW => S.trans (hW.mono S.size)
  have HCELL : Hid (∀ W, Below w1.heap.size w1 W → W.cell? ⟨w.heap.size, 0, none⟩ = some (.slice A xs.length cap)) := Lib.hid fun W hW => sblk (b1.on hW)
  have hmx : xs.length ≤ 1099511627776 := by omega
  have HG1 := Lib.hid (fun W (hW : Below w.heap.size w W) => sref_Great xs A cap w.heap.size W hW.size (hx.keep hW) hox hmx)
  have HC2 := Lib.hid (fun W (hW : Below w.heap.size w W) => sref_Check xs A cap w.heap.size W hW.size (hx.keep hW) hox hmx)
  have HF : Hid (∀ W, Below w.heap.size w W → RdN W w.heap.size A xs) := Lib.hid fun W hW => hx.keep hW
  have HOK := Lib.hid hox
  have HLD : Hid (checkE chI xs = 0 → ∀ (b k : Nat) W, Below w.heap.size w W → k < xs.length → Calls Try.prog 15 #[vS A xs cap, .int .i64 (k : Int), .int .i64 (b : Int)] W fun e w' => e = .returned (.bool (ldB xs k b)) ∧ Below W.heap.size W w') := Lib.hid fun h b k W hW hk =>
    sref_Leads xs A cap w.heap.size b (wf_of h) hox hmx _ k W (Nat.le_refl _) hk hW.size (hx.keep hW)
  have HSL : Hid (checkE chI xs = 0 → ∀ W, Below w.heap.size w W → Calls Try.prog 16 #[vS A xs cap, .int .i64 a] W fun e w' => (∃ v, e = .returned v ∧ Own w' W.heap.size .i64 3 v (leadsL xs a)) ∧ Below W.heap.size W w') := Lib.hid fun h W hW =>
    sch_Leads xs A cap w.heap.size a W (wf_of h) hox hlx hW.size (hx.keep hW)
  have HLE : Hid (leadsL xs a = wantL xs a xs.length) := Lib.hid rfl
  obtain ⟨m, hml⟩ : ∃ m, xs.length = m := ⟨_, rfl⟩
  have HM := Lib.hid hml
  unfold vS at *
  rw [hml] at hlx hw1 HCELL HG1 HC2 HLD HSL ⊢
  have p0 := HCELL.out w1 (Below.refl _ _)
  have hmb : (m : Int) ≤ 1048576 := by omega
  clear S b1 hx hox hml
  generalize greatS xs = g1 at *
  cases g1 with
  | true =>
    go_enter Try.func4, Try.ntmps4
    go_wp2_with (first
      | (go_at_call 5; refine (HA.out _).mono ?_; rintro e w3 ⟨rfl, hb3⟩; have a0 := HCELL.out w3 hb3; have HB3 := Lib.hid hb3; clear hb3)
      | (go_at_call 6; refine (HG1.out _ (HUP.out _ HB3.out)).mono ?_; rintro e w4 ⟨rfl, hb4⟩; have HB4 := Lib.hid (HB3.out.trans (hb4.mono HB3.out.size)); clear hb4)
      | fail)
    go_ret
    exact ⟨rfl, HUP.out _ HB4.out⟩
  | false =>
  go_enter Try.func4, Try.ntmps4
  go_wp2_with (first
    | (go_at_call 5; refine (HA.out _).mono ?_; rintro e w3 ⟨rfl, hb3⟩; have a0 := HCELL.out w3 hb3; have HB3 := Lib.hid hb3; clear hb3)
    | (go_at_call 6; refine (HG1.out _ (HUP.out _ HB3.out)).mono ?_; rintro e w4 ⟨rfl, hb4⟩; have HB4 := Lib.hid (HB3.out.trans (hb4.mono HB3.out.size)); clear hb4)
    | fail)
  clear p0 a0 hw1
  go_loopw [5] (fun i wr => ∃ k : Nat, k ≤ m ∧ i = .int .i64 (k : Int) ∧ Hid (Below w1.heap.size w1 wr)) (fun i _ => m - (intOf i).toNat)
  case atStart => exact ⟨0, by omega, rfl, HB4⟩
  case round =>
    obtain ⟨k, hk, rfl, HBr⟩ := hrel
    have a0 := HCELL.out _ HBr.out
    by_cases hlt : k < m
    · obtain ⟨b, o, x, p, rfl, -, hbw, X, mX, hnd, c0, c1, c2, c3, c4, c5, c6, c7, c8⟩ := (HF.out wr (HUP.out _ HBr.out)).get (i := k) (by rw [HM.out]; exact hlt)
      have hx := HOK.out x mX
      have hnr : w.heap.size ≤ wr.heap.size := (HUP.out _ HBr.out).size
      have HN1 := Lib.hid (fun W (hW : Below wr.heap.size wr W) => sch_Named x p w.heap.size W (Nat.le_trans hnr hW.size) (hnd.keep (hW.mono hnr)) hx.lf)
      have HN2 := Lib.hid (fun W (hW : Below wr.heap.size wr W) => ref_Named x p w.heap.size W (Nat.le_trans hnr hW.size) (hnd.keep (hW.mono hnr)) hx.lf)
      have HLN : Hid ((namedN x).length ≤ 1099511627776) := Lib.hid (by rw [length_namedN]; exact hx.lf)
      have HKP : Hid (∀ W, Below wr.heap.size wr W → W.cell? ⟨w.heap.size, 0, none⟩ = some (.slice (some ⟨b, o, none⟩) m cap) ∧ W.cell? ⟨b, o + k * 9, none⟩ = some (.int .i64 x.k) ∧ W.cell? ⟨b, o + k * 9 + 1, none⟩ = some (.int .i64 x.lo) ∧ W.cell? ⟨b, o + k * 9 + 2, none⟩ = some (.int .i64 x.hi) ∧ W.cell? ⟨b, o + k * 9 + 3, none⟩ = some (.int .i64 x.v.k) ∧ W.cell? ⟨b, o + k * 9 + 4, none⟩ = some (.int .u64 x.v.n) ∧ W.cell? ⟨b, o + k * 9 + 5, none⟩ = some (.string x.v.s) ∧ W.cell? ⟨b, o + k * 9 + 6, none⟩ = some (.slice p.Av x.v.l.length p.cv) ∧ W.cell? ⟨b, o + k * 9 + 7, none⟩ = some (.slice p.Al x.l.length p.cl) ∧ W.cell? ⟨b, o + k * 9 + 8, none⟩ = some (.slice p.Af x.f.length p.cf)) := Lib.hid fun W hW =>
        ⟨(hW.cell (p := ⟨w.heap.size, 0, none⟩) (block_lt_of_cell a0)).trans a0, (hW.cell (p := ⟨b, _, none⟩) hbw).trans c0, (hW.cell (p := ⟨b, _, none⟩) hbw).trans c1, (hW.cell (p := ⟨b, _, none⟩) hbw).trans c2, (hW.cell (p := ⟨b, _, none⟩) hbw).trans c3, (hW.cell (p := ⟨b, _, none⟩) hbw).trans c4, (hW.cell (p := ⟨b, _, none⟩) hbw).trans c5, (hW.cell (p := ⟨b, _, none⟩) hbw).trans c6, (hW.cell (p := ⟨b, _, none⟩) hbw).trans c7, (hW.cell (p := ⟨b, _, none⟩) hbw).trans c8⟩
      clear X mX hnd hx hnr hbw
      generalize namedN x = L at *
      simp only [vN] at HN1 HN2
      have HBW := Lib.hid (show Below wr.heap.size wr wr.drew from below_drawn (Below.refl _ _))
      have cS := HKP.out wr.drew HBW.out
      go_wp2_with fail
      go_region_held3 (fun W => W.cell? ⟨w.heap.size, 0, none⟩ = some (.slice (some ⟨b, o, none⟩) m cap) ∧ W.cell? ⟨b, o + k * 9, none⟩ = some (.int .i64 x.k) ∧ W.cell? ⟨b, o + k * 9 + 1, none⟩ = some (.int .i64 x.lo) ∧ W.cell? ⟨b, o + k * 9 + 2, none⟩ = some (.int .i64 x.hi) ∧ W.cell? ⟨b, o + k * 9 + 3, none⟩ = some (.int .i64 x.v.k) ∧ W.cell? ⟨b, o + k * 9 + 4, none⟩ = some (.int .u64 x.v.n) ∧ W.cell? ⟨b, o + k * 9 + 5, none⟩ = some (.string x.v.s) ∧ W.cell? ⟨b, o + k * 9 + 6, none⟩ = some (.slice p.Av x.v.l.length p.cv) ∧ W.cell? ⟨b, o + k * 9 + 7, none⟩ = some (.slice p.Al x.l.length p.cl) ∧ W.cell? ⟨b, o + k * 9 + 8, none⟩ = some (.slice p.Af x.f.length p.cf)) (first | go_keep | exact cS) ((first
        | (go_at_call 13; refine (HN1.out _ HBW.out).mono ?_; rintro e7 w7 ⟨⟨v7, rfl, hO⟩, hb7⟩; obtain ⟨Ax, cx, rfl, -, -, -, -, hrd⟩ := hO.form; have HX7 := Lib.hid hrd; (first | (have HY7 := Lib.hid (HY7.out.on hb7)) | skip); have HBW := Lib.hid (HBW.out.trans (hb7.mono HBW.out.size)); have cS := HKP.out w7 HBW.out; clear hO hb7 hrd)
        | (go_at_call 14; refine (HN2.out _ HBW.out).mono ?_; rintro e7 w7 ⟨⟨v7, rfl, hO⟩, hb7⟩; obtain ⟨Ay, cy, rfl, -, -, -, -, hrd⟩ := hO.form; have HY7 := Lib.hid hrd; (first | (have HX7 := Lib.hid (HX7.out.on hb7)) | skip); have HBW := Lib.hid (HBW.out.trans (hb7.mono HBW.out.size)); have cS := HKP.out w7 HBW.out; clear hO hb7 hrd)
        | (go_at_call 12; refine (ref_Ints L L _ _ _ _ _ _ (Nat.le_refl _) HX7.out HY7.out HLN.out).mono ?_; rintro e7 w7 ⟨rfl, hb7⟩; rw [sameL_true.2 rfl]; have HBW := Lib.hid (HBW.out.trans (hb7.mono HBW.out.size)); have cS := HKP.out w7 HBW.out; clear hb7)))
      all_goals
        clear cS
        go_wp2_with fail
        go_roundw
        case rel => exact ⟨k + 1, by omega, by simp, Lib.hid (HBr.out.trans (HBW.out.mono HBr.out.size))⟩
        case measure => simp [intOf]; omega
    · obtain rfl : k = m := by omega
      clear hlt hk
      obtain ⟨ci, hci⟩ : ∃ c : Int, ((checkI chI xs : Nat) : Int) = c := ⟨_, rfl⟩
      obtain ⟨ce, hce⟩ : ∃ c, checkE chI xs = c := ⟨_, rfl⟩
      rw [hci, hce] at HC2
      rw [hce] at HLD HSL
      clear hci hce
      have HARM := Lib.hid (HC2.out _ (HUP.out _ HBr.out))
      by_cases h0 : ce = 0
      · subst h0
        by_cases h12 : 12 < k
        · have e12 : (12 : Int) < k := by omega
          clear h12
          go_wp2_with (first
            | (go_at_call 8; refine HARM.out.mono ?_; rintro e w5 ⟨rfl, hb5⟩; have HB5 := Lib.hid (HBr.out.trans (hb5.mono HBr.out.size)); have c0 := HCELL.out w5 HB5.out; clear hb5)
            | fail)
          go_ret
          exact ⟨rfl, HUP.out _ HB5.out⟩
        · have e12 : ¬ (12 : Int) < k := by omega
          have HL1 := Lib.hid (HLD.out rfl)
          have HL2 := Lib.hid (HSL.out rfl)
          go_wp2_with (first
            | (go_at_call 8; refine HARM.out.mono ?_; rintro e w5 ⟨rfl, hb5⟩; have HB5 := Lib.hid (HBr.out.trans (hb5.mono HBr.out.size)); have c0 := HCELL.out w5 HB5.out; clear hb5)
            | fail)
          clear e12 a0 c0
          obtain ⟨wo, rfl⟩ : ∃ wo, wo = wr := ⟨_, rfl⟩
          go_loopw [8, 9] (fun v i wr => ∃ j : Nat, j ≤ k ∧ i = .int .i64 (j : Int) ∧ (j < k → (a < 0 ∨ (k : Int) ≤ a) → j = 0) ∧ Hid (Below w1.heap.size w1 wr) ∧ Hid (Own wr w1.heap.size .i64 3 v (wantL xs a j))) (fun _ i _ => k - (intOf i).toNat)
          case atStart => exact ⟨0, by omega, rfl, fun _ _ => rfl, HB5, Lib.hid (by unfold wantL; split <;> exact Own.nil _ _ _ _)⟩
          case round =>
            obtain ⟨j, hj, rfl, hjb, HBj, HO⟩ := hrel
            have c0 := HCELL.out _ HBj.out
            by_cases hbad : a < 0 ∨ (k : Int) ≤ a
            · have HW0 : Hid (∀ j, wantL xs a j = []) := Lib.hid fun j => by unfold wantL; rw [HM.out, if_pos hbad]
              have e1 : ¬ (0 ≤ a) ∨ ¬ a < (k : Int) := by omega
              clear hjb
              have HFIN : Hid (wantL xs a j = leadsL xs a) := Lib.hid (by rw [HLE.out, HW0.out, HW0.out])
              have HSLW := Lib.hid (HL2.out wr (HUP.out _ HBj.out))
              obtain ⟨A6, cap6, rfl, -, -, hn6, -, hrd6⟩ := HO.out.form
              have HRD6 := Lib.hid hrd6
              clear hrd6 hbad
              rcases e1 with e1 | e1
              · go_wp2_with (first
                  | (go_at_call 16; refine HSLW.out.mono ?_; rintro e w7 ⟨⟨v7, rfl, hO⟩, hb7⟩; obtain ⟨A7, cap7, rfl, -, -, -, -, hrd⟩ := hO.form; have HRD7 := Lib.hid hrd; have HRD6 := Lib.hid (HRD6.out.on hb7); have HB7 := Lib.hid (HBj.out.trans (hb7.mono HBj.out.size)); clear hO hb7 hrd)
                  | (go_at_call 12; refine (ref_Ints (leadsL xs a) (wantL xs a j) _ _ _ _ _ _ (Nat.le_refl _) HRD7.out HRD6.out (by rw [← HFIN.out, HW0.out]; exact Nat.zero_le _)).mono ?_; rintro e w8 ⟨rfl, hb8⟩; rw [sameL_true.2 HFIN.out.symm]; have HB8 := Lib.hid (HB7.out.trans (hb8.mono HB7.out.size)); clear hb8)
                  | fail)
                go_ret
                exact ⟨rfl, HUP.out _ HB8.out⟩
              · by_cases e2 : 0 ≤ a
                · go_wp2_with (first
                    | (go_at_call 16; refine HSLW.out.mono ?_; rintro e w7 ⟨⟨v7, rfl, hO⟩, hb7⟩; obtain ⟨A7, cap7, rfl, -, -, -, -, hrd⟩ := hO.form; have HRD7 := Lib.hid hrd; have HRD6 := Lib.hid (HRD6.out.on hb7); have HB7 := Lib.hid (HBj.out.trans (hb7.mono HBj.out.size)); clear hO hb7 hrd)
                    | (go_at_call 12; refine (ref_Ints (leadsL xs a) (wantL xs a j) _ _ _ _ _ _ (Nat.le_refl _) HRD7.out HRD6.out (by rw [← HFIN.out, HW0.out]; exact Nat.zero_le _)).mono ?_; rintro e w8 ⟨rfl, hb8⟩; rw [sameL_true.2 HFIN.out.symm]; have HB8 := Lib.hid (HB7.out.trans (hb8.mono HB7.out.size)); clear hb8)
                    | fail)
                  go_ret
                  exact ⟨rfl, HUP.out _ HB8.out⟩
                · go_wp2_with (first
                    | (go_at_call 16; refine HSLW.out.mono ?_; rintro e w7 ⟨⟨v7, rfl, hO⟩, hb7⟩; obtain ⟨A7, cap7, rfl, -, -, -, -, hrd⟩ := hO.form; have HRD7 := Lib.hid hrd; have HRD6 := Lib.hid (HRD6.out.on hb7); have HB7 := Lib.hid (HBj.out.trans (hb7.mono HBj.out.size)); clear hO hb7 hrd)
                    | (go_at_call 12; refine (ref_Ints (leadsL xs a) (wantL xs a j) _ _ _ _ _ _ (Nat.le_refl _) HRD7.out HRD6.out (by rw [← HFIN.out, HW0.out]; exact Nat.zero_le _)).mono ?_; rintro e w8 ⟨rfl, hb8⟩; rw [sameL_true.2 HFIN.out.symm]; have HB8 := Lib.hid (HB7.out.trans (hb8.mono HB7.out.size)); clear hb8)
                    | fail)
                  go_ret
                  exact ⟨rfl, HUP.out _ HB8.out⟩
            · obtain ⟨an, rfl⟩ : ∃ an : Nat, a = (an : Int) := ⟨a.toNat, by omega⟩
              have HW : Hid (∀ j, wantL xs (an : Int) j = ldL xs an j) := Lib.hid fun j => by unfold wantL; rw [HM.out, if_neg hbad]; rfl
              have e1 : an < k := by omega
              have e1' : (an : Int) < k := by omega
              clear hjb hbad
              by_cases hjk : j < k
              · have HLJ := Lib.hid (HL1.out j an wr (HUP.out _ HBj.out) e1)
                obtain ⟨r, hr⟩ : ∃ r, ldB xs an j = r := ⟨_, rfl⟩
                rw [hr] at HLJ
                have HR := Lib.hid hr
                clear hr
                cases r with
                | true =>
                  go_wp2_with (first
                    | (go_at_call 15; refine HLJ.out.mono ?_; rintro e w6 ⟨rfl, hb6⟩; have HB6 := Lib.hid (HBj.out.trans (hb6.mono HBj.out.size)); have HO6 := Lib.hid (HO.out.below hb6); clear hb6)
                    | ((with_reducible refine is_append 35 rfl ?_);
                       (obtain ⟨v', w8, hR8, hO8, hB8, -⟩ := run_append_nums (P := Try.prog) (t := 35) (ty := 35) (cap := 1) Try.underlying35 infoInt (by decide) (HO6.out.alloc (.cells #[.int .i64 (j : Int)] 3)) (show Rd (w6.alloc (.cells #[.int .i64 (j : Int)] 3)) (w6.alloc (.cells #[.int .i64 (j : Int)] 3)).heap.size .i64 (some ⟨w6.heap.size, 0, none⟩) [(j : Int)] from (Blk.fresh w6 3 (nums .i64 [(j : Int)])).rd) (fun h => by cases h) (by have := length_ldL (xs := xs) an j; rw [HW.out]; simp only [List.length_singleton]; omega) (by have := HB6.out.size; simp; omega));
                       simp only [List.length_singleton] at hR8;
                       have HR8 := Lib.hid hR8; have HO8 := Lib.hid hO8; have HB8 := Lib.hid (HB6.out.trans (((below_alloc w6 (.cells #[.int .i64 (j : Int)] 3)).mono HB6.out.size).trans hB8)); clear hR8 hO8 hB8;
                       (with_reducible refine wpList_append_run rfl rfl HR8.out ?_ ?_ ?_); (· rfl); (· rfl))
                    | fail)
                  go_roundw
                  case rel => exact ⟨j + 1, by omega, by simp, fun _ h => by omega, HB8, Lib.hid (by have := HO8.out; rw [HW.out] at this ⊢; rw [ldL_yes HR.out]; exact this)⟩
                  case measure => simp [intOf]; omega
                | false =>
                  go_wp2_with (first
                    | (go_at_call 15; refine HLJ.out.mono ?_; rintro e w6 ⟨rfl, hb6⟩; have HB6 := Lib.hid (HBj.out.trans (hb6.mono HBj.out.size)); have HO6 := Lib.hid (HO.out.below hb6); clear hb6)
                    | fail)
                  go_roundw
                  case rel => exact ⟨j + 1, by omega, by simp, fun _ h => by omega, HB6, Lib.hid (by have := HO6.out; rw [HW.out] at this ⊢; rw [ldL_no HR.out]; exact this)⟩
                  case measure => simp [intOf]; omega
              · obtain rfl : j = k := by omega
                have HFIN : Hid (wantL xs (an : Int) j = leadsL xs (an : Int)) := Lib.hid (by rw [HLE.out, HM.out])
                have HSLW := Lib.hid (HL2.out wr (HUP.out _ HBj.out))
                have HLEN : Hid ((leadsL xs (an : Int)).length ≤ 1099511627776) := Lib.hid (by rw [← HFIN.out, HW.out]; have := length_ldL (xs := xs) an j; omega)
                obtain ⟨A6, cap6, rfl, -, -, hn6, -, hrd6⟩ := HO.out.form
                have HRD6 := Lib.hid hrd6
                clear hrd6
                go_wp2_with (first
                  | (go_at_call 16; refine HSLW.out.mono ?_; rintro e w7 ⟨⟨v7, rfl, hO⟩, hb7⟩; obtain ⟨A7, cap7, rfl, -, -, -, -, hrd⟩ := hO.form; have HRD7 := Lib.hid hrd; have HRD6 := Lib.hid (HRD6.out.on hb7); have HB7 := Lib.hid (HBj.out.trans (hb7.mono HBj.out.size)); clear hO hb7 hrd)
                  | (go_at_call 12; refine (ref_Ints (leadsL xs (an : Int)) (wantL xs (an : Int) j) _ _ _ _ _ _ (Nat.le_refl _) HRD7.out HRD6.out HLEN.out).mono ?_; rintro e w8 ⟨rfl, hb8⟩; rw [sameL_true.2 HFIN.out.symm]; have HB8 := Lib.hid (HB7.out.trans (hb8.mono HB7.out.size)); clear hb8)
                  | fail)
                go_ret
                exact ⟨rfl, HUP.out _ HB8.out⟩
      · have e0 : (ce != 0) = true := by simp [h0]
        clear h0
        go_wp2_with (first
          | (go_at_call 8; refine HARM.out.mono ?_; rintro e w5 ⟨rfl, hb5⟩; have HB5 := Lib.hid (HBr.out.trans (hb5.mono HBr.out.size)); clear hb5)
          | fail)
        go_ret
        exact ⟨rfl, HUP.out _ HB5.out⟩

theorem own : ownKnob Try.prog.godebug = none := by kernel_rfl
theorem laidOut : laidOutB Try.prog = true := by kernel_rfl
set_option maxRecDepth 100000 in
theorem contract (H : Type) (enc : TypeId × Value → H) (W : World) (base : Nat) (args : Array Value) (ds gs : List (DataW H)) (before : List MemPlace) (hk : Rows.uptoSmall H (ds ++ gs) = true)
    (hval : ∀ (j : Nat) t v, Try.f4.params[j]? = some t → args[j]? = some v → Value.okWide Try.prog W .any base t v)
    (hW : DataW.Whole enc Try.prog Try.f4.params.toList Rows.schemaLeadsSpec.vars false W args.toList ds gs before) :
    Calls Try.prog 4 args W fun e W' => ∃ v, e = .returned v ∧ Rows.schemaLeadsSpec.post enc Try.prog Try.f4 false true false false W args v W' := by
  have hW' := hW
  obtain ⟨p, q, hA0, hV, hpq, _, _⟩ := hW
  have hA : DataW.TrodAll enc Try.prog W 0 (fun _ => true) true Try.f4.params.toList args.toList ds p := hA0
  rw [Try.params4] at hA hval
  obtain ⟨v0, vs0, d0, ds0, p0, q0, hargs, rfl, rfl, h0, r0⟩ := trodAll_cons hA
  obtain ⟨v1, vs1, d1, ds1, p1, q1, rfl, rfl, rfl, h1, r1⟩ := trodAll_cons r0
  obtain ⟨rfl, rfl, rfl⟩ := trodAll_nil r1
  obtain rfl : args = #[v0, v1] := by cases args; simp_all
  obtain ⟨rfl, rfl⟩ := trodVars_none hV
  have hs : Rows.uptoBulk d0 + (Rows.uptoBulk d1 + 0) ≤ 1048576 := of_decide_eq_true hk
  obtain ⟨x0, A0, c0, rfl, hx0, ho0, hl0⟩ := open_schema (hval 0 24 v0 rfl rfl) h0 (by omega)
  obtain ⟨a1, rfl, _, w1⟩ := open_int Try.underlying3 (hval 1 3 v1 rfl rfl) h1
  have b1 : -9223372036854775808 ≤ a1 ∧ a1 ≤ 9223372036854775807 := by first | simpa [Lit.wf, IntKind.min, IntKind.max, IntKind.bits, IntKind.signed] using w1 | simpa [Lit.wf, IntKind.min, IntKind.max, IntKind.bits, IntKind.signed] using w1.2
  refine (walk x0 A0 c0 a1 W hx0 ho0 hl0 b1).mono fun e W' ⟨he, hbl⟩ => ?_
  subst he
  exact ⟨_, rfl, law_post laidOut (by kernel_rfl) rfl (by kernel_rfl) Try.underlying4 rfl rfl rfl hW' hbl⟩
set_option maxRecDepth 100000 in
theorem lifted (os : Os) (started : os.Started) (H : Type) (enc : TypeId × Value → H) (F : Stop.Interp) :
    ReturnsInHanded {} Try.checked os 4 .any ((Rows.OpenSpec.upto Rows.schemaLeadsSpec).pre6 enc Try.prog Try.f4 Rows.schemaLeadsUptoRow.domain false) (((Rows.OpenSpec.upto Rows.schemaLeadsSpec).at F).post enc Try.prog Try.f4 false true false false) := by
  refine returnsInHanded_of_cond (C := Try.checked) (s := Rows.OpenSpec.upto Rows.schemaLeadsSpec) (k := Rows.uptoSmall) rfl own started (by kernel_rfl) Try.func4
    (OpenSpec.witness (enc := enc) (C := Try.checked) (s := Rows.OpenSpec.upto Rows.schemaLeadsSpec) (k := Rows.uptoSmall) rfl false ⟨#[], #[.agg #[.slice none 0 0], .int .i64 0], []⟩ 8 (by kernel_rfl) (by kernel_rfl) (by kernel_rfl)
      (x := ([.agg [.nil], .lit (.int .i64 0)], [], [])) (by kernel_rfl) rfl (by kernel_rfl)) ?_
  intro W base args ds gs before hval hW _ hk _
  exact contract H enc W base args ds gs before hk hval hW
theorem over : Rows.schemaLeadsUptoRow.holds Try.pinned (Rows.OpenSpec.upto Rows.schemaLeadsSpec) :=
  OpenClaim.holds_of_cond 4 Try.f4 rfl rfl rfl rfl rfl rfl rfl ⟨rfl, rfl, rfl, rfl, rfl⟩ rfl rfl rfl rfl rfl (by kernel_rfl) Try.func4 (by kernel_rfl)
    (of_decide_eq_true (by kernel_rfl)) (by unfold Func.isWrapper; first | (rw [if_pos (by decide +kernel)]; kernel_rfl) | (rw [if_neg (by decide +kernel)]; exact ⟨rfl, rfl⟩))
    (fun os started H enc _ F => lifted os started H enc F)

/-- The statement. -/
theorem proved : Rows.SchemaLeadsUptoSaid := over
#print axioms proved
end Go.Proofs.Ytgbbgdjdomkohaa.schemaLeads
