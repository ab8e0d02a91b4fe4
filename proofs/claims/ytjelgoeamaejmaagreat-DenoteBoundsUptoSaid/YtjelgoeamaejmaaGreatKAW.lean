/- Package ullageref08: wrong. -/
import Derived.Test.YtjelgoeamaejmaaGreatKAU
import Derived.Test.YtjelgoeamaejmaaGreatKAV
import Derived.Test.YtjelgoeamaejmaaGreatKAB
import Derived.Carry
namespace Go.Proofs.YtjelgoeamaejmaaGreat
open Go.RowKit

theorem evens_get : ∀ (l : List It) (i : Nat), (evens l)[i]? = l[2 * i]?
  | [], i => by simp [evens]
  | [a], 0 => by simp [evens]
  | [a], i + 1 => by simp [evens]
  | a :: b :: r, 0 => by simp [evens]
  | a :: b :: r, i + 1 => by
    rw [evens, List.getElem?_cons_succ, evens_get r i, show 2 * (i + 1) = 2 * i + 1 + 1 by omega, List.getElem?_cons_succ, List.getElem?_cons_succ]
theorem twice_of {l : List It} {i j : Nat} {X : It} (hi : i % 2 = 0) (hj : j % 2 = 0) (hij : i < j) (h1 : l[i]? = some X) (h2 : l[j]? = some X) : twiceB l = true := by
  rw [twiceB_true]
  have g1 := evens_get l (i / 2)
  have g2 := evens_get l (j / 2)
  rw [show 2 * (i / 2) = i by omega, h1] at g1
  rw [show 2 * (j / 2) = j by omega, h2] at g2
  obtain ⟨k1, e1⟩ := List.getElem?_eq_some_iff.1 g1
  obtain ⟨k2, e2⟩ := List.getElem?_eq_some_iff.1 g2
  exact ⟨i / 2, j / 2, by omega, k2, e1.trans e2.symm⟩
theorem not_twice {l : List It} (h : ∀ (i j : Nat) (X : It), i % 2 = 0 → j % 2 = 0 → i < j → l[i]? = some X → l[j]? = some X → False) : twiceB l = false := by
  rw [twiceB_false]
  rintro ⟨i, j, hi, hj, he⟩
  have g1 := evens_get l i
  have g2 := evens_get l j
  rw [List.getElem?_eq_getElem (by omega)] at g1
  rw [List.getElem?_eq_getElem hj, ← he] at g2
  exact h (2 * i) (2 * j) _ (by omega) (by omega) (by omega) g1.symm g2.symm
theorem formK_out {k m : Int} {a b : Bool} (h : k < 0 ∨ 8 < k) : formK k a b m = false := by
  unfold formK
  rw [if_neg (by omega), if_neg (by omega), if_neg (by omega), if_neg (by omega), if_neg (by omega)]
set_option maxRecDepth 100000 in
set_option maxHeartbeats 4000000 in
theorem ref_NaN (x : Nat) (hx : x < 2 ^ 64) (w : World) :
    Calls Tryz.prog 40 #[.int .u64 x] w fun e w' => e = .returned (.bool (decide (FNan 11 52 x))) ∧ w' = w := by
  go_enter Tryz.func40, Tryz.ntmps40
  go_wp2_with fail
  all_goals go_ret
  all_goals refine ⟨?_, rfl⟩
  · show Ending.returned (Value.bool ((x : Int) % 4503599627370496 != 0)) = _
    refine congrArg (fun b => Ending.returned (Value.bool b)) ?_
    rw [Bool.eq_iff_iff, decide_eq_true_iff, bne_iff_ne]
    unfold FNan fex ffr
    omega
  · show Ending.returned (Value.bool false) = _
    refine congrArg (fun b => Ending.returned (Value.bool b)) ?_
    rw [eq_comm, decide_eq_false_iff_not]
    unfold FNan fex ffr
    omega
set_option maxRecDepth 100000 in
set_option maxHeartbeats 4000000 in
theorem ref_wrong (t : It) (A : Option Addr) (cap : Nat) (w : World) (hn0 : 0 ≤ t.n) (hn1 : t.n < 18446744073709551616) (hs : t.s.size ≤ 1000000000) (hc : t.count ≤ 1099511627776) (h : AtV w t A cap) :
    Calls Tryz.prog 27 #[vI t A cap] w fun e w' => e = .returned (.int .i64 (wrongI t)) ∧ Below w.heap.size w w' := by
  obtain ⟨k, n, s, l⟩ := t
  obtain ⟨w1, hw1, b1, S⟩ := iblk1 w 28 #[.int .i64 k, .int .u64 n, .string s, .slice A l.length cap]
  obtain ⟨p0, p1, p2, p3, -⟩ := iblk b1
  have HS := Lib.hid S
  clear S b1
  simp only [vI, It.k, It.n, It.s, It.l]
  obtain ⟨r, hr⟩ : ∃ r, wrongI (It.mk k n s l) = r := ⟨_, rfl⟩
  rw [hr]
  have HR := Lib.hid hr
  clear hr
  have hm0 : (0 : Int) ≤ l.length := by omega
  go_enter Tryz.func27, Tryz.ntmps27
  by_cases h5 : k = 5
  · subst h5
    have H1 := Lib.hid (h.on HS.out)
    have HCB : RowKit.Hid (∀ X, X ∈ l → X.count ≤ 1099511627776) := Lib.hid fun X hX => by
      have := count_le_of_mem hX
      simp only [It.count] at hc; omega
    have hml : (l.length : Int) < 1099511627776 := by
      have := length_le_countL l
      simp only [It.count] at hc; omega
    simp only [It.n, It.s] at hn0 hn1 hs
    obtain ⟨m, hm⟩ : ∃ m, l.length = m := ⟨_, rfl⟩
    rw [hm] at hw1 p3 hml hm0 ⊢
    have HM := Lib.hid hm
    clear hm h hc
    by_cases hf : n = 0 ∧ s.toList = [] ∧ (m : Int) % 2 = 0
    · obtain ⟨rfl, hs0, hpar⟩ := hf
      have HW : RowKit.Hid (r = if twiceB l then 14 else 0) := Lib.hid (by
        rw [← HR.out]
        unfold wrongI
        rw [if_neg, if_neg, if_neg, ]
        · simp [It.k, It.l]
        · simp [It.k]
        · simp [rangB, It.k]
        · simp [formB, formK, It.k, It.n, It.s, It.l, HM.out, hs0, hpar])
      go_wp2_with fail
      clear hw1
      have HG := Lib.hid (block_lt_of_cell p3)
      go_loopw [8] (fun i wr => ∃ p : Nat, p ≤ m ∧ p % 2 = 0 ∧ i = .int .i64 (p : Int) ∧ RowKit.Hid (Below w1.heap.size w1 wr) ∧ RowKit.Hid (∀ i j X, i < p → i % 2 = 0 → j % 2 = 0 → i < j → l[i]? = some X → l[j]? = some X → False)) (fun i _ => m - (intOf i).toNat)
      case atStart => exact ⟨0, by omega, by omega, rfl, Lib.hid (Below.refl _ _), Lib.hid fun i j X h => absurd h (by omega)⟩
      case round =>
        obtain ⟨p, hp, hp2, rfl, HB, HE⟩ := hrel
        obtain ⟨wo, rfl⟩ : ∃ wo, wo = wr := ⟨_, rfl⟩
        have z3 := (HB.out.cell (p := ⟨w.heap.size, 3, none⟩) HG.out).trans p3
        by_cases hlt : p < m
        · have hltI : (p : Int) < m := by omega
          have hpp : p + 2 ≤ m := by omega
          have e1 : wrap64 ((p : Int) + 2) = (p : Int) + 2 := by unfold wrap64; omega
          go_wp2_with fail
          go_loopw [9] (fun i wi => ∃ q : Nat, p + 2 ≤ q ∧ q ≤ m ∧ q % 2 = 0 ∧ i = .int .i64 (q : Int) ∧ RowKit.Hid (Below w1.heap.size w1 wi) ∧ RowKit.Hid (∀ j X, p < j → j < q → j % 2 = 0 → l[p]? = some X → l[j]? = some X → False)) (fun i _ => m - (intOf i).toNat)
          case atStart => exact ⟨p + 2, by omega, by omega, by omega, by simp, HB, Lib.hid fun j X h1 h2 h3 => absurd h2 (by omega)⟩
          case round =>
            obtain ⟨q, hq0, hq, hq2, rfl, HBI, HEI⟩ := hrel
            have y3 := (HBI.out.cell (p := ⟨w.heap.size, 3, none⟩) HG.out).trans p3
            by_cases hltq : q < m
            · have hltJ : (q : Int) < m := by omega
              have e2 : wrap64 ((q : Int) + 2) = (q : Int) + 2 := by unfold wrap64; omega
              obtain ⟨i1, o1, X, A1', c1', rfl, hb1, hX, mX, x0, x1, x2, x3, hx⟩ := (H1.out.on HBI.out).at_.item (i := p) (by show p < l.length; rw [HM.out]; exact hlt)
              obtain ⟨i2, o2, Y, A2', c2', hA2, hb2, hY, mY, y0, y1, y2, yy3, hy⟩ := (H1.out.on HBI.out).at_.item (i := q) (by show q < l.length; rw [HM.out]; exact hltq)
              injection hA2 with hA2
              injection hA2 with ea eb
              subst ea eb
              have HX := Lib.hid (And.intro hX hY)
              have hcc := fun W h1 h2 => ref_Same X.count X Y A1' A2' c1' c2' W (Nat.le_refl _) (HCB.out X mX) (hx.on h1) (hy.on h2)
              obtain ⟨rs, hr⟩ : ∃ r, sameB X Y = r := ⟨_, rfl⟩
              simp only [vI] at hcc
              rw [hr] at hcc
              have HRS := Lib.hid hr
              have HCC := Lib.hid hcc
              clear hx hy hX hY hcc mX mY hr
              go_wp2_with fail
              refine wp_region_quiet_tail 10 (by kernel_rfl) (by kernel_rfl) ?_
              simp only [List.take_succ_cons, List.take_zero, List.drop_succ_cons, List.drop_zero]
              repeat (quiet_step (fail))
              refine wpQuiet_nil ?_
              rintro _ ⟨nq, rfl⟩
              have HQ := Lib.hid (below_drewN (Below.refl wr.heap.size wr) nq)
              generalize wr.drewN nq = w2 at *
              cases rs
              · go_wp2_with (go_at_call 29; refine (HCC.out w2 HQ.out HQ.out).mono ?_; rintro e w3 ⟨rfl, hb3⟩; have HB3 := Lib.hid hb3; clear hb3)
                go_roundw
                case rel =>
                  refine ⟨q + 2, by omega, by omega, by omega, by simp, Lib.hid (HBI.out.trans ((HQ.out.trans (HB3.out.mono HQ.out.size)).mono HBI.out.size)), Lib.hid fun j Z h1 h2 h3 h4 h5 => ?_⟩
                  rcases (by omega : j < q ∨ j = q ∨ j = q + 1) with h | rfl | rfl
                  · exact HEI.out j Z h1 h h3 h4 h5
                  · have g1 := HX.out.1
                    have g2 := HX.out.2
                    simp only [It.l] at g1 g2
                    rw [h4] at g1
                    rw [h5] at g2
                    injection g1 with g1
                    injection g2 with g2
                    have := HRS.out
                    rw [← g1, ← g2, sameB_refl] at this
                    cases this
                  · omega
                case measure => simp [intOf]; omega
              · go_wp2_with (go_at_call 29; refine (HCC.out w2 HQ.out HQ.out).mono ?_; rintro e w3 ⟨rfl, hb3⟩; have HB3 := Lib.hid hb3; clear hb3)
                go_ret
                refine ⟨?_, HS.out.trans ((HBI.out.trans ((HQ.out.trans (HB3.out.mono HQ.out.size)).mono HBI.out.size)).mono HS.out.size)⟩
                have e := sameB_true.1 HRS.out
                have g2 := HX.out.2
                rw [← e] at g2
                rw [HW.out, twice_of (l := l) hp2 hq2 (by omega) HX.out.1 g2]
                rfl
            · have hltJ : ¬ (q : Int) < m := by omega
              go_wp2_with fail
              go_roundw
              case rel =>
                have hstep : ∀ i j X, i < p + 2 → i % 2 = 0 → j % 2 = 0 → i < j → l[i]? = some X → l[j]? = some X → False := by
                  intro i j X h1 h2 h3 h4 h5 h6
                  rcases (by omega : i < p ∨ i = p ∨ i = p + 1) with h | rfl | rfl
                  · exact HE.out i j X h h2 h3 h4 h5 h6
                  · have hj := (List.getElem?_eq_some_iff.1 h6).1
                    rw [HM.out] at hj
                    exact HEI.out j X h4 (by omega) h3 h5 h6
                  · omega
                exact ⟨p + 2, by omega, by omega, by omega, Lib.hid hstep⟩
              case measure => simp [intOf]; omega
        · have hltI : ¬ (p : Int) < m := by omega
          go_wp2_with fail
          go_ret
          refine ⟨?_, HS.out.trans (HB.out.mono HS.out.size)⟩
          rw [HW.out, not_twice fun i j X h1 h2 h3 h4 h5 => HE.out i j X (by
            have hj := (List.getElem?_eq_some_iff.1 h4).1
            rw [HM.out] at hj
            omega) h1 h2 h3 h4 h5]
          rfl
    · have HW : RowKit.Hid (r = 11) := Lib.hid (by
        rw [← HR.out]
        unfold wrongI
        rw [if_pos]
        unfold formB formK
        simp only [It.k, It.n, It.s, It.l, HM.out]
        simp
        simp at hf
        exact hf)
      by_cases hn : n = 0
      · subst hn
        by_cases hs0 : s.toList = []
        · have hpar : ¬ (m : Int) % 2 = 0 := fun h => hf ⟨rfl, hs0, h⟩
          clear hf hml hn1
          go_wp2_with fail
          all_goals go_ret
          all_goals exact ⟨by rw [HW.out]; rfl, HS.out⟩
        · clear hf hml hn1
          go_wp2_with fail
          all_goals go_ret
          all_goals exact ⟨by rw [HW.out]; rfl, HS.out⟩
      · clear hf hml hn1
        go_wp2_with fail
        all_goals go_ret
        all_goals exact ⟨by rw [HW.out]; rfl, HS.out⟩
  by_cases hko : k < 0 ∨ 8 < k
  · have HE : RowKit.Hid (formB (It.mk k n s l) = false) := Lib.hid (formK_out hko)
    go_wp2_with fail
    all_goals go_ret
    all_goals refine ⟨?_, HS.out⟩
    all_goals (rw [← HR.out]; unfold wrongI; rw [if_pos HE.out]; rfl)
  by_cases h3 : k = 3
  · subst h3
    have HF := Lib.hid (ref_First s hs)
    clear h5 hko
    cases hu : uok uq0 (sbytes s)
    all_goals rw [hu] at HF
    all_goals go_wp2_with (go_at_call 38; refine (HF.out _).mono ?_; rintro e w' ⟨rfl, rfl⟩)
    all_goals go_ret
    all_goals refine ⟨?_, HS.out⟩
    all_goals (rw [← HR.out]; simp_all [wrongI, formB, formK, rangB, It.k, It.n, It.s, It.l])
  by_cases h8 : k = 8
  · subst h8
    simp only [It.n] at hn0 hn1
    have hnn : ((n.toNat : Nat) : Int) = n := by omega
    have C := fun w => ref_NaN n.toNat (by omega) w
    rw [hnn] at C
    have HC := Lib.hid C
    clear h5 hko h3 C hnn
    cases hb : decide (FNan 11 52 n.toNat)
    all_goals rw [hb] at HC
    all_goals go_wp2_with (go_at_call 40; refine (HC.out _).mono ?_; rintro e w' ⟨rfl, rfl⟩)
    all_goals go_ret
    all_goals refine ⟨?_, HS.out⟩
    all_goals (rw [← HR.out]; simp_all [wrongI, formB, formK, rangB, theNaN, It.k, It.n, It.s, It.l])
  rcases (by omega : k = 0 ∨ k = 1 ∨ k = 2 ∨ k = 4 ∨ k = 6 ∨ k = 7) with rfl | rfl | rfl | rfl | rfl | rfl
  all_goals clear h5 hko h3 h8
  all_goals go_wp2_with fail
  all_goals go_ret
  all_goals refine ⟨?_, HS.out⟩
  all_goals (rw [← HR.out]; simp_all [wrongI, formB, formK, rangB, It.k, It.n, It.s, It.l])
  all_goals first | omega | (intro _; omega) | (apply decide_eq_false; omega)
end Go.Proofs.YtjelgoeamaejmaaGreat

/- Package ullageref08: Check. -/
namespace Go.Proofs.YtjelgoeamaejmaaGreat
open Go.RowKit

set_option maxRecDepth 100000 in
set_option maxHeartbeats 4000000 in
theorem ref_Check (x : It) (A : Option Addr) (cap n : Nat) (w : World) (hc : x.count ≤ 1099511627775) (hn : n ≤ w.heap.size) (h : AtB w n x A cap)
    (hf : ∀ t, t ∈ its x 1 → 0 ≤ t.n ∧ t.n < 18446744073709551616 ∧ t.s.size ≤ 1000000000 ∧ t.count ≤ 1099511627776) :
    Calls Tryz.prog 12 #[vI x A cap] w fun e w' => e = .returned (.int .i64 (checkR wrongI x)) ∧ Below w.heap.size w w' := by
  obtain ⟨w1, hw1, b1, S⟩ := iblk1 w 28 #[.int .i64 x.k, .int .u64 x.n, .string x.s, .slice A x.l.length cap]
  obtain ⟨p0, p1, p2, p3, -⟩ := iblk b1
  have CD := fun w' (hb : Below w.heap.size w w') => ref_Depth x A cap n w' hc (Nat.le_trans hn hb.size) (h.keep (hb.mono hn))
  have C2 := fun w' (hb : Below w.heap.size w w') => ref_Items x.count x A cap n 1 w' (Nat.le_refl _) (by omega) (Nat.le_trans hn hb.size) (h.keep (hb.mono hn))
  have HW := Lib.hid (fun t A cap W (ht : t ∈ its x 1) (hv : AtV W t A cap) => ref_wrong t A cap W (hf t ht).1 (hf t ht).2.1 (hf t ht).2.2.1 (hf t ht).2.2.2 hv)
  have hL : RowKit.Hid ((its x 1).length = x.count) := Lib.hid (length_its x 1)
  have HML := Lib.hid (fun _ : Unit => (show (x.count : Int) < 1099511627776 by omega))
  obtain ⟨dp, hdp⟩ : ∃ d, x.depth = d := ⟨_, rfl⟩
  rw [hdp] at CD
  have HDP := Lib.hid hdp
  obtain ⟨r, hr⟩ : ∃ r, checkR wrongI x = r := ⟨_, rfl⟩
  rw [hr]
  have HR := Lib.hid hr
  have HC2 := Lib.hid C2
  have HCD := Lib.hid CD
  have HS := Lib.hid S
  have HN := Lib.hid hn
  clear CD C2 S h hc hn b1 hf hdp hr
  simp only [vI] at HC2 HCD HW ⊢
  go_enter Tryz.func12, Tryz.ntmps12
  by_cases h64 : 64 < dp
  · have h64I : (64 : Int) < dp := by omega

    go_wp2_with (go_at_call 25; refine (HCD.out _ HS.out).mono ?_; rintro e w2 ⟨rfl, hb2⟩; have HB2 := Lib.hid (HS.out.trans (hb2.mono HS.out.size)); clear hb2)
    go_ret
    exact ⟨by rw [← HR.out, checkR, HDP.out, if_pos h64]; rfl, HB2.out⟩
  · have h64I : ¬ (64 : Int) < dp := by omega
    go_wp2_with (first
      | (go_at_call 25; refine (HCD.out _ HS.out).mono ?_; rintro e w2 ⟨rfl, hb2⟩; have p0' := (hb2.cell (p := ⟨w.heap.size, 0, none⟩) (block_lt_of_cell p0)).trans p0; have p1' := (hb2.cell (p := ⟨w.heap.size, 1, none⟩) (block_lt_of_cell p1)).trans p1; have p2' := (hb2.cell (p := ⟨w.heap.size, 2, none⟩) (block_lt_of_cell p2)).trans p2; have p3' := (hb2.cell (p := ⟨w.heap.size, 3, none⟩) (block_lt_of_cell p3)).trans p3; have HB2 := Lib.hid (HS.out.trans (hb2.mono HS.out.size)); clear hb2)
      | (go_at_call 26; refine (HC2.out _ HB2.out).mono ?_; rintro e w3 ⟨v1, v2, rfl, hp, hb3⟩; have HB3 := Lib.hid (HB2.out.trans (hb3.mono HB2.out.size)); have HO := Lib.hid hp.1; clear hb3 hp))
    clear p0 p1 p2 p3 p0' p1' p2' p3' hw1 HC2 HCD
    have HRR : RowKit.Hid (r = firstErr ((its x 1).map wrongI)) := Lib.hid (by rw [← HR.out, checkR, HDP.out, if_neg h64, its, List.map_map]; rfl)
    have hpos : 0 < (its x 1).length := by rw [hL.out]; exact count_pos x
    generalize its x 1 = L at *
    obtain ⟨g, cap1, rfl, hle, -, hgB, hgl⟩ := HO.out.form hpos
    obtain ⟨m, hm⟩ : ∃ m, L.length = m := ⟨_, rfl⟩
    rw [hm] at hle hpos ⊢
    have HM := Lib.hid hm
    have HG := Lib.hid (And.intro hgB hgl)
    have HO' : RowKit.Hid (OwnI w3 n w2.heap.size (.slice (some ⟨g, 0, none⟩) L.length cap1) L) := HO
    have HMB : RowKit.Hid (∀ _ : Unit, (m : Int) < 1099511627776) := Lib.hid fun _ => by have h1 := HML.out (); have h2 := hL.out; rw [hm] at h2; rw [h2]; exact h1
    clear HO hm hle hgB hgl hpos
    go_loopw [5] (fun i wr => ∃ j : Nat, j ≤ m ∧ i = .int .i64 (j : Int) ∧ RowKit.Hid (Below w3.heap.size w3 wr) ∧ RowKit.Hid (∀ e ∈ (L.take j).map wrongI, e = 0)) (fun i _ => m - (intOf i).toNat)
    case atStart => exact ⟨0, by omega, rfl, Lib.hid (Below.refl _ _), Lib.hid (by simp)⟩
    case round =>
      obtain ⟨j, hj, rfl, HB, HZ⟩ := hrel
      by_cases hlt : j < m
      · have hltI : (j : Int) < m := by omega
        have e1 : wrap64 ((j : Int) + 1) = (j : Int) + 1 := by have := HMB.out (); unfold wrap64; omega
        obtain ⟨X, A', cap', hX, mX, x0, x1, x2, x3, hv⟩ := (HO'.out.keepB HB.out (Nat.le_trans HN.out HB3.out.size)).item (i := j) (by rw [HM.out]; exact hlt)
        have C := HW.out X A' cap' wr mX hv.toV
        obtain ⟨z, hz⟩ : ∃ z, wrongI X = z := ⟨_, rfl⟩
        rw [hz] at C
        have HZZ := Lib.hid hz
        have HC := Lib.hid C
        have HX := Lib.hid hX
        clear C hz hv hX mX
        by_cases hz0 : z = 0
        · subst hz0
          go_wp2_with (go_at_call 27; refine HC.out.mono ?_; rintro e w5 ⟨rfl, hb5⟩; have HB5 := Lib.hid (HB.out.trans (hb5.mono HB.out.size)); clear hb5)
          rw [e1]
          go_roundw
          case rel =>
            refine ⟨j + 1, by omega, by simp, HB5, Lib.hid ?_⟩
            rw [(take_at HX.out).1, List.map_append]
            intro e he
            rcases List.mem_append.1 he with he | he
            · exact HZ.out e he
            · simp only [List.map_cons, List.map_nil, List.mem_singleton] at he
              rw [he, HZZ.out]
          case measure => simp [intOf]; omega
        · go_wp2_with (go_at_call 27; refine HC.out.mono ?_; rintro e w5 ⟨rfl, hb5⟩; have HB5 := Lib.hid (HB.out.trans (hb5.mono HB.out.size)); clear hb5)
          go_ret
          refine ⟨?_, HB3.out.trans (HB5.out.mono HB3.out.size)⟩
          have hs : L = L.take j ++ (X :: L.drop (j + 1)) := by
            have := (take_at HX.out).1
            conv => lhs; rw [← List.take_append_drop (j + 1) L, this]
            simp
          rw [HRR.out, hs, List.map_append, firstErr_append_zero HZ.out, List.map_cons, firstErr, HZZ.out, if_pos hz0]
          rfl
      · have hltI : ¬ (j : Int) < m := by omega
        obtain rfl : j = m := by omega
        go_wp2_with fail
        go_ret
        have h0 := HZ.out
        rw [← HM.out, List.take_length] at h0
        exact ⟨by rw [HRR.out, firstErr_all h0]; rfl, HB3.out.trans (HB.out.mono HB3.out.size)⟩
end Go.Proofs.YtjelgoeamaejmaaGreat

/- The frame of every law's proof: what is left is that the call returns true and turns nothing that was there. -/
namespace Go.Proofs.YtjelgoeamaejmaaGreat
open Go.ChangeShapes Go.WideShapes Go.ChangeAt Go.RowKit

section
variable {H : Type} {enc : TypeId × Value → H} {P : Program} {W W' : World}
/-- Arguments read as they did where below the heap's old size nothing has turned. -/
theorem args_stay (hl : laidOutB P = true) (hb : Below W.heap.size W W') : ∀ (ts : List TypeId) (vs : List Value) (ds : List (DataW H)) (ps : List MemPlace),
    (ts.all fun t => P.readableRec t && decide (t < P.types.size)) = true → (∀ p ∈ ps, p.block < W.heap.size) →
    DataW.TrodAll enc P W 0 (fun _ => true) true ts vs ds ps → DataW.TrodAll enc P W' 0 (fun b => decide (b < W.heap.size)) true ts vs ds ps
  | [], vs, ds, ps, _, _, h => by
    obtain ⟨rfl, rfl, rfl⟩ := trodAll_nil h
    exact trodAll_mk0
  | t :: ts, vs, ds, ps, ht, hp, h => by
    obtain ⟨v, vs', d, ds', p, q, rfl, rfl, rfl, hd, hr⟩ := trodAll_cons h
    simp only [List.all_cons, Bool.and_eq_true, decide_eq_true_eq] at ht
    have ha := Below.trod hl ht.1.1 ht.1.2 hd hb (fun x hx => hp x (List.mem_append_left _ hx))
    exact trodAll_cons_mk ha (args_stay hl hb ts vs' ds' q (by simpa using ht.2) (fun x hx => hp x (List.mem_append_right _ hx)) hr)

/-- What a law's row asks behind the call. -/
theorem law_post {f : Func} {s : ChangeSpec} {args : Array Value} {ds gs : List (DataW H)} {before : List MemPlace} {tb : TypeId}
    (hl : laidOutB P = true) (ht : (f.params.toList.all fun t => P.readableRec t && decide (t < P.types.size)) = true) (hv : s.vars = [])
    (hr : f.resultTypes = #[tb]) (hu : P.underlying tb = some .bool)
    (hres : (s.fn H (ds ++ gs)).results = [.lit (.bool true)]) (hargs : (s.fn H (ds ++ gs)).args = ds) (hvars : (s.fn H (ds ++ gs)).vars = [])
    (hW : DataW.Whole enc P f.params.toList s.vars false W args.toList ds gs before) (hb : Below W.heap.size W W') :
    s.post enc P f false true false false W args (.bool true) W' := by
  have hlt := hW.lt
  have hW' := hW
  obtain ⟨p, q, hA, hV, hpq, _, _⟩ := hW
  rw [hv] at hV
  obtain ⟨rfl, rfl⟩ := trodVars_none hV
  rw [List.append_nil] at hpq
  subst hpq
  refine ⟨ds, [], before, [], before, [], hW', ?_, ?_, ?_, World.keptBut_mono (fun x hx => ⟨hx, Or.inr (Or.inl hx)⟩) (hb.frame (· ∈ before)), fun h => by cases h⟩
  · rw [hres, hr]
    exact trodAll_mk1 (shut_bool hu true)
  · rw [hargs]
    exact args_stay hl hb _ _ _ _ ht hlt hA
  · rw [hv, hvars]
    rfl

/-- A slice of integers that came in. -/
theorem open_nums {t e : TypeId} {k : IntKind} {b0 : Nat} {v : Value} {d : DataW H} {ps : List MemPlace} (ht : P.underlying t = some (.slice e)) (he : P.underlying e = some (.int k)) (hc : P.cellsOf e = 1)
    (hval : Value.okWide P W .any b0 t v) (hd : DataW.Trod enc P W 0 (fun _ => true) true t v d ps) (hlt : ∀ x ∈ ps, x.block < W.heap.size) :
    ∃ (A : Option Addr) (cap : Nat) (zs : List Int), v = .slice A zs.length cap ∧ zs.length ≤ 9223372036854775807 ∧ Rd W W.heap.size k A zs ∧ ∀ n ∈ zs, (Lit.int k n).wf = true := by
  obtain ⟨a0, len, cap, rfl⟩ := okWide_slice ht hval
  obtain ⟨fuel, hf⟩ := hd
  rcases open_ints ht he hc hf with ⟨hcs, hx⟩ | ⟨a, len', cap', zs, hcs, _, hl, hm, hz, hx, hcell, hwz⟩
  · simp [Value.cells] at hcs
    obtain ⟨rfl, rfl, rfl⟩ := hcs
    exact ⟨none, 0, [], rfl, by decide, fun h => absurd h (by simp), by simp⟩
  · simp [Value.cells] at hcs
    obtain ⟨rfl, rfl, rfl⟩ := hcs
    simp only [Prod.mk.injEq] at hx
    obtain ⟨rfl, rfl⟩ := hx
    simp only [if_true] at hz
    unfold maxLen at hm
    have hlen : (zs.take len).length = len := by rw [List.length_take]; omega
    refine ⟨some a, cap, zs.take len, by rw [hlen], by rw [hlen]; omega, fun hpos => ?_, fun n hn => hwz n (List.mem_of_mem_take hn)⟩
    rw [hlen] at hpos
    have h0 := hcell 0 (by omega)
    obtain ⟨b, off, spot⟩ := a
    have hspot : spot = none := by simpa [Addr.add] using World.cell?_spot h0
    subst hspot
    refine ⟨b, off, rfl, ?_, fun i hi => ?_⟩
    · have := hlt (.cell b off) (MemPlace.mem_row.2 ⟨0, by omega, by simp⟩)
      exact this
    · rw [hlen] at hi
      rw [← add_plain, hcell i (by omega)]
      congr 2
      simp [List.getD_eq_getElem?_getD, hi]
/-- A slice of integers that came in; its capacity too. -/
theorem open_nums' {t e : TypeId} {k : IntKind} {b0 : Nat} {v : Value} {d : DataW H} {ps : List MemPlace} (ht : P.underlying t = some (.slice e)) (he : P.underlying e = some (.int k)) (hc : P.cellsOf e = 1)
    (hval : Value.okWide P W .any b0 t v) (hd : DataW.Trod enc P W 0 (fun _ => true) true t v d ps) (hlt : ∀ x ∈ ps, x.block < W.heap.size) :
    ∃ (A : Option Addr) (cap : Nat) (zs : List Int), v = .slice A zs.length cap ∧ zs.length ≤ 9223372036854775807 ∧ zs.length ≤ cap ∧ (A = none → cap = 0) ∧ Rd W W.heap.size k A zs ∧ ∀ n ∈ zs, (Lit.int k n).wf = true := by
  obtain ⟨a0, len, cap, rfl⟩ := okWide_slice ht hval
  obtain ⟨fuel, hf⟩ := hd
  rcases open_ints ht he hc hf with ⟨hcs, hx⟩ | ⟨a, len', cap', zs, hcs, _, hl, hm, hz, hx, hcell, hwz⟩
  · simp [Value.cells] at hcs
    obtain ⟨rfl, rfl, rfl⟩ := hcs
    exact ⟨none, 0, [], rfl, by decide, by decide, fun _ => rfl, fun h => absurd h (by simp), by simp⟩
  · simp [Value.cells] at hcs
    obtain ⟨rfl, rfl, rfl⟩ := hcs
    simp only [Prod.mk.injEq] at hx
    obtain ⟨rfl, rfl⟩ := hx
    simp only [if_true] at hz
    unfold maxLen at hm
    have hlen : (zs.take len).length = len := by rw [List.length_take]; omega
    refine ⟨some a, cap, zs.take len, by rw [hlen], by rw [hlen]; omega, by rw [hlen]; exact hl, fun h => (by cases h), fun hpos => ?_, fun n hn => hwz n (List.mem_of_mem_take hn)⟩
    rw [hlen] at hpos
    have h0 := hcell 0 (by omega)
    obtain ⟨b, off, spot⟩ := a
    have hspot : spot = none := by simpa [Addr.add] using World.cell?_spot h0
    subst hspot
    refine ⟨b, off, rfl, ?_, fun i hi => ?_⟩
    · have := hlt (.cell b off) (MemPlace.mem_row.2 ⟨0, by omega, by simp⟩)
      exact this
    · rw [hlen] at hi
      rw [← add_plain, hcell i (by omega)]
      congr 2
      simp [List.getD_eq_getElem?_getD, hi]
end
end Go.Proofs.YtjelgoeamaejmaaGreat
