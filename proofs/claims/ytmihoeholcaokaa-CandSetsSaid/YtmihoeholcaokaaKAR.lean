/- Package item: compare, Same. -/
import Derived.Test.YtmihoeholcaokaaKAQ
namespace Go.Proofs.Ytmihoeholcaokaa
open Go.RowKit

theorem item_one (x y : It) (A1 A2 : Option Addr) (c1 c2 : Nat) (w : World) :
    Calls Try.prog 47 #[vI x A1 c1, vI y A2 c2] w fun e w' => e = .returned (.int .i64 (oneC x y)) ∧ Bel w.heap.size w w' := by
  rw [oneC_or]
  exact item_compareOneB x.k x.n y.k y.n x.s y.s A1 A2 x.l.length c1 y.l.length c2 w
theorem less_round {l j : Nat} {z : Int} (hz : z = (j : Int) + 1) (h : j < l) : l - z.toNat < l - j := by subst hz; omega
theorem stSize_length (ps : List (List It × List It)) : ps.length ≤ stSize (ps.map (·.1)).reverse := by
  rw [stSize_reverse]
  induction ps with
  | nil => simp [stSize]
  | cons p r ih => simp only [List.length_cons, List.map_cons, stSize]; omega
theorem kidsP_length : ∀ (p q : List It), (kidsP p q).length ≤ p.length
  | [], _ => by simp [kidsP]
  | _ :: _, [] => by simp [kidsP]
  | x :: p, y :: q => by
    have := kidsP_length p q
    simp only [kidsP, List.length_append, List.length_cons]
    split <;> simp <;> omega
theorem room_for (ps : List (List It × List It)) (p q : List It) (j : Nat) : (ps ++ kidsP (p.take j) (q.take j)).length + 1 ≤ stSize ((ps ++ [(p, q)]).map (·.1)).reverse := by
  have h1 := stSize_length ps
  have h2 := kidsP_length (p.take j) (q.take j)
  have h3 := length_le_countL p
  rw [List.length_take] at h2
  rw [stSize_reverse] at h1 ⊢
  rw [List.map_append, stSize_append, List.length_append]
  simp only [List.map_cons, List.map_nil, stSize]
  omega

/-- One more pair is laid on top. -/
theorem pair_push {wi w6 : World} {n B gp : Nat} {v : Value} {st : List (List It × List It)} {X Y : It} {A1 A2 : Option Addr} {c1 c2 : Nat} (h : OwnG (PE wi n) wi B 92 2 v st) (hb : Bel wi.heap.size wi w6) (r1 : RL w6 n X.l A1 c1) (r2 : RL w6 n Y.l A2 c2)
    (hroom : st.length + 1 ≤ 1099511627776) (hB : B ≤ wi.heap.size) (hn : n ≤ B) (hgp : v.ownBlock ≠ some gp) (hgl : gp < wi.heap.size) :
    ∃ w7 v' w8, w6.alloc (.cells #[.slice A1 X.l.length c1, .slice A2 Y.l.length c2] 92) = w7 ∧
      (Builtin.append_ #[93, 93] 93 #[v, .slice (some ⟨w6.heap.size, 0, none⟩) 1 1]).run Try.prog w7 = .ok v' w8 ∧
      OwnG (PE w8 n) w8 B 92 2 v' (st ++ [(X.l, Y.l)]) ∧ Bel B wi w8 ∧ v'.ownBlock ≠ some gp ∧ w8.heap[gp]? = wi.heap[gp]? ∧ gp < w8.heap.size := by
  have hs6 := hb.size
  have S7 := bel_alloc w6 (.cells #[.slice A1 X.l.length c1, .slice A2 Y.l.length c2] 92)
  have b7 := Blk.fresh w6 92 #[.slice A1 X.l.length c1, .slice A2 Y.l.length c2]
  have S67 : Bel wi.heap.size wi (w6.alloc (.cells #[.slice A1 X.l.length c1, .slice A2 Y.l.length c2] 92)) := hb.trans (S7.mono hs6)
  have hs7 := S67.size
  generalize hw7 : w6.alloc (.cells #[.slice A1 X.l.length c1, .slice A2 Y.l.length c2] 92) = w7 at *
  have o7 : OwnG (PE w7 n) w7 B 92 2 v st := (h.on S67.toBelow).imp (PE.keep (S67.toBelow.mono (by omega)))
  have hpe : PE w7 n (X.l, Y.l) [.slice A1 X.l.length c1, .slice A2 Y.l.length c2] := ⟨A1, c1, A2, c2, rfl, r1.keep (S7.toBelow.mono (by omega)), r2.keep (S7.toBelow.mono (by omega))⟩
  obtain ⟨v', w8, hr, ho, hb8, hg8, hw8⟩ := o7.push (P := Try.prog) (t := 93) (ty := 93) (bytes := 48) (a := ⟨w6.heap.size, 0, none⟩) (k := 1) (by kernel_rfl) infoPair rfl (by decide) (by decide) hpe rfl
    (fun j u hj => by
      rw [Addr.add_mid, Nat.zero_add, b7.cell]
      simpa using hj)
    (fun u hu => by
      simp only [List.mem_cons, List.not_mem_nil, or_false] at hu
      rcases hu with rfl | rfl <;> rfl) hroom (by omega)
  refine ⟨w7, v', w8, rfl, hr, ho.imp (PE.keep (hb8.mono hn)), (S67.mono hB).trans (Bel.of_run hr hb8), ?_, ?_, ?_⟩
  · rcases hw8 with e | e
    · rw [e]; exact hgp
    · rw [e]; intro e'; injection e' with e'; omega
  · rw [hg8.block gp (by omega) (fun e => hgp e.symm)]
    exact S67.block gp hgl
  · have := hb8.size; omega

set_option maxRecDepth 100000 in
set_option maxHeartbeats 4000000 in
theorem item_compareB (x y : It) (A1 A2 : Option Addr) (c1 c2 n : Nat) (w : World) (hc : x.count ≤ 1099511627775) (hn : n ≤ w.heap.size) (h1 : AtB w n x A1 c1) (h2 : AtB w n y A2 c2) :
    Calls Try.prog 41 #[vI x A1 c1, vI y A2 c2] w fun e w' => e = .returned (.int .i64 (itC x y)) ∧ Bel w.heap.size w w' := by
  obtain ⟨w1, hw1, b1, b2, S⟩ := iblk2B w 39 #[.int .i64 x.k, .int .u64 x.n, .string x.s, .slice A1 x.l.length c1] #[.int .i64 y.k, .int .u64 y.n, .string y.s, .slice A2 y.l.length c2]
  obtain ⟨p0, p1, p2, p3, -⟩ := iblk b1
  obtain ⟨q0, q1, q2, q3, -⟩ := iblk b2
  have C0 := item_one x y A1 A2 c1 c2 w1
  have HONE := Lib.hid (fun X Y A1 A2 c1 c2 w => item_one X Y A1 A2 c1 c2 w)
  have HNE := Lib.hid (fun h => itC_one (a := x) (b := y) h)
  have HST := Lib.hid (fun h => Left.start (x := x) (y := y) h)
  have HS := Lib.hid S
  generalize itC x y = z at *
  obtain ⟨o, ho⟩ : ∃ o, oneC x y = o := ⟨_, rfl⟩
  rw [ho] at C0 HNE HST
  have HC := Lib.hid (fun _ : Unit => hc)
  have HSX : RowKit.Hid (∀ _ : Unit, stSize [x.l] = x.count) := Lib.hid fun _ => by rw [It.count_eq]; simp [stSize]
  have HR1 := Lib.hid h1
  have HR2 := Lib.hid h2
  have HN := Lib.hid hn
  have HC0 := Lib.hid C0
  clear h1 h2 S b1 b2 hn hc ho C0
  simp only [vI] at HC0 HONE ⊢
  go_enter Try.func41, Try.ntmps41
  by_cases h0 : o = 0
  · subst h0
    go_wp2_with (go_at_call 47; refine HC0.out.mono ?_; rintro e w2 ⟨rfl, hb2⟩; have p3' := (hb2.cell (p := ⟨w.heap.size, 3, none⟩) (block_lt_of_cell p3)).trans p3; have q3' := (hb2.cell (p := ⟨w.heap.size + 1, 3, none⟩) (block_lt_of_cell q3)).trans q3; have HB2 := Lib.hid (HS.out.trans (hb2.mono HS.out.size)); clear hb2)
    obtain ⟨w3, hw3, O3, S3⟩ : ∃ w3, w2.alloc (.cells #[.slice A1 x.l.length c1, .slice A2 y.l.length c2] 92) = w3 ∧
        OwnG (PE w3 n) w3 w.heap.size 92 2 (.slice (some ⟨w2.heap.size, 0, none⟩) 1 1) [(x.l, y.l)] ∧ Bel w.heap.size w w3 := by
      have hb := HB2.out.alloc (by exact HB2.out.size) (.cells #[.slice A1 x.l.length c1, .slice A2 y.l.length c2] 92)
      exact ⟨_, rfl, OwnG.fresh w2 _ _ 2 _ ⟨A1, c1, A2, c2, rfl, (HR1.out.keep (hb.toBelow.mono HN.out)).rl, (HR2.out.keep (hb.toBelow.mono HN.out)).rl⟩ rfl HB2.out.size, hb⟩
    rw [hw3]
    have HL0 := Lib.hid (HST.out (by simp))
    have HO3 := Lib.hid O3
    have HS3 := Lib.hid S3
    clear hw3 O3 S3 HST HNE HC0 HR1 HR2 HB2 p3' q3' p0 p1 p2 p3 q0 q1 q2 q3 hw1 HS
    go_loopg [6] (x.count) (fun gk v wr => ∃ ps, RowKit.Hid (OwnG (PE wr n) wr w.heap.size 92 2 v ps) ∧ RowKit.Hid (Left ps z) ∧ RowKit.Hid (stSize (ps.map (·.1)).reverse = gk) ∧ RowKit.Hid (∀ _ : Unit, gk ≤ x.count) ∧ RowKit.Hid (Bel w.heap.size w wr))
    case atStart => exact ⟨_, HO3, HL0, Lib.hid (HSX.out ()), Lib.hid fun _ => Nat.le_refl _, HS3⟩
    case round =>
      obtain ⟨ps, HO, HL, HZ, HGK, HB⟩ := hrel
      rcases List.eq_nil_or_concat ps with rfl | ⟨ps', ⟨p, q⟩, rfl⟩
      · obtain ⟨A, cap, rfl, hle, hcap, hnil, hA⟩ := HO.out.form
        clear hnil hA
        go_wp2_with fail
        go_ret
        exact ⟨by rw [HL.out.done]; rfl, HB.out⟩
      · rw [List.concat_eq_append] at *
        obtain ⟨g, cap, rfl, hle, hcap, hgB, hgs⟩ := HO.out.head (by simp)
        obtain ⟨c, ⟨B1, d1, B2, d2, rfl, r1, r2⟩, hcells, HO'⟩ := HO.out.top PE.len
        obtain ⟨m, hm⟩ : ∃ m, ps'.length = m := ⟨_, rfl⟩
        have hlen : (ps' ++ [(p, q)]).length = m + 1 := by rw [← hm]; simp
        rw [hlen] at hle ⊢
        rw [hm] at hcells HO'
        have t0 := hcells 0 _ rfl
        have t1 := hcells 1 _ rfl
        have hless := fun W => run_less (P := Try.prog) (t := 93) (elem := 92) (by kernel_rfl) sizePair W g (m + 1) cap m (m : Int) rfl (by omega)
        have hmb : (m : Int) < 1099511627776 := by
          have e1 := stSize_length (ps' ++ [(p, q)])
          have e2 := HC.out ()
          have e3 := HGK.out ()
          rw [HZ.out, hlen] at e1
          omega
        have hsub : (m : Int) + 1 - 1 = m := by omega
        have HM := Lib.hid hm
        have HP1 := Lib.hid r1
        have HP2 := Lib.hid r2
        have HO2 := Lib.hid HO'
        have HPQ := Lib.hid HL.out.len
        clear hcells HO' hm hlen r1 r2
        simp only [Nat.add_zero] at t0 t1
        go_wp2_with fail
        obtain ⟨wo, rfl⟩ : ∃ wo, wo = wr := ⟨_, rfl⟩
        have b4 := Blk.fresh wo 92 #[.slice B1 p.length d1, .slice B2 q.length d2]
        have S4 := bel_alloc wo (.cells #[.slice B1 p.length d1, .slice B2 q.length d2] 92)
        have hgp4 : wo.heap.size < (wo.alloc (.cells #[.slice B1 p.length d1, .slice B2 q.length d2] 92)).heap.size := by simp
        have HO4 := Lib.hid ((HO2.out.on S4.toBelow).imp (PE.keep (S4.toBelow.mono (by have := HN.out; omega))))
        have hgne : g ≠ wo.heap.size := by omega
        have HG4 : RowKit.Hid ((Value.slice (some ⟨g, 0, none⟩) m cap).ownBlock ≠ some wo.heap.size) := Lib.hid (by simp only [Value.ownBlock]; intro e; injection e with e; omega)
        generalize wo.alloc (.cells #[.slice B1 p.length d1, .slice B2 q.length d2] 92) = w4 at *
        have HBX : RowKit.Hid (w4.cell? ⟨wo.heap.size, 0, none⟩ = some (.slice B1 p.length d1) ∧ w4.cell? ⟨wo.heap.size, 1, none⟩ = some (.slice B2 q.length d2)) := Lib.hid ⟨by rw [b4.cell]; rfl, by rw [b4.cell]; rfl⟩
        have HS4 := Lib.hid (S4.mono (show w.heap.size ≤ wo.heap.size by omega))
        have HGP4 := Lib.hid hgp4
        have HGB := Lib.hid (show w.heap.size ≤ wo.heap.size by omega)
        clear b4 S4 hgp4 hgne t0 t1 hless hgB hgs hle hcap
        obtain ⟨l, hl⟩ : ∃ l, p.length = l := ⟨_, rfl⟩
        have hl' : q.length = l := by rw [← HPQ.out, hl]
        rw [hl, hl'] at HBX
        rw [hl]
        have HLP := Lib.hid hl
        have HLQ := Lib.hid hl'
        have hlb : (l : Int) < 1099511627776 := by
          have e1 := room_for ps' p q 0
          have e2 := HC.out ()
          have e3 := HGK.out ()
          have e4 := HZ.out
          have e5 := length_le_countL p
          rw [stSize_reverse, List.map_append, stSize_append] at e4
          simp only [List.map_cons, List.map_nil, stSize] at e4
          omega
        generalize wo.heap.size = gp at *
        have HLB := Lib.hid (fun _ : Unit => hlb)
        clear hl hl' hmb hsub hlb
        go_loopw [6, 41] (fun v i wi => ∃ j : Nat, j ≤ l ∧ i = .int .i64 (j : Int) ∧ RowKit.Hid (OwnG (PE wi n) wi w.heap.size 92 2 v (ps' ++ kidsP (p.take j) (q.take j))) ∧ RowKit.Hid (v.ownBlock ≠ some gp) ∧ RowKit.Hid (Alike p q j) ∧ RowKit.Hid (Bel w.heap.size wo wi) ∧
          RowKit.Hid (wi.cell? ⟨gp, 0, none⟩ = some (.slice B1 l d1) ∧ wi.cell? ⟨gp, 1, none⟩ = some (.slice B2 l d2)) ∧ RowKit.Hid (gp < wi.heap.size)) (fun _ i _ => l - (intOf i).toNat)
        case atStart => exact ⟨0, by omega, rfl, Lib.hid (by simpa [kidsP] using HO4.out), HG4, Lib.hid (Alike.zero p q), HS4, HBX, HGP4⟩
        case round =>
          obtain ⟨j, hj, rfl, HOI, HNB, HAL, HBI, HBX, HGPI⟩ := hrel
          by_cases hlt : j < l
          · as_aux_lemma =>
            obtain ⟨i1, o1, X, A1', c1', rfl, -, hb1, hX, mX, x0, x1, x2, x3, hx⟩ := (HP1.out.keep (HBI.out.toBelow.mono HN.out)).item (i := j) (by rw [HLP.out]; exact hlt)
            obtain ⟨i2, o2, Y, A2', c2', rfl, -, hb2, hY, mY, y0, y1, y2, y3, hy⟩ := (HP2.out.keep (HBI.out.toBelow.mono HN.out)).item (i := j) (by rw [HLQ.out]; exact hlt)
            obtain ⟨bp0, bp1⟩ := HBX.out
            obtain ⟨w5, hw5, bx, byy, S5⟩ := iblk2B wr 39 #[.int .i64 X.k, .int .u64 X.n, .string X.s, .slice A1' X.l.length c1'] #[.int .i64 Y.k, .int .u64 Y.n, .string Y.s, .slice A2' Y.l.length c2']
            obtain ⟨xx0, xx1, xx2, xx3, -⟩ := iblk bx
            obtain ⟨yy0, yy1, yy2, yy3, -⟩ := iblk byy
            have bp1' := (S5.cell (p := ⟨gp, 1, none⟩) HGPI.out).trans bp1
            have C0 := HONE.out X Y A1' A2' c1' c2' w5
            have HXY := Lib.hid (And.intro hX hY)
            have HRX := Lib.hid hx
            have HRY := Lib.hid hy
            have HS5 := Lib.hid S5
            have HBW := Lib.hid (show w.heap.size ≤ wr.heap.size by have h1 := HGB.out; have h2 := HGPI.out; omega)
            have hgpi := HGPI.out
            have e1 : wrap64 ((j : Int) + 1) = (j : Int) + 1 := by have := HLB.out (); unfold wrap64; omega
            clear hX hY hx hy S5 bx byy mX mY
            by_cases h0 : oneC X Y = 0
            · have HAL' := Lib.hid (HAL.out.succ HXY.out.1 HXY.out.2 h0)
              have HKT := Lib.hid (kidsP_take HXY.out.1 HXY.out.2)
              have hxyl := (oneC_zero.1 h0).2.2.1
              rw [h0] at C0
              clear h0
              have HC0 := Lib.hid C0
              clear C0
              obtain ⟨r, hr⟩ : ∃ r, X.l.length = r := ⟨_, rfl⟩
              have hr' : Y.l.length = r := by rw [← hxyl, hr]
              have HLX := Lib.hid hr
              have HLY := Lib.hid hr'
              rw [hr] at x3 xx3 hw5 HC0
              rw [hr'] at y3 yy3 hw5 HC0
              clear hxyl hr hr'
              by_cases hz : r = 0
              · subst hz
                go_wp2_with (go_at_call 47; refine HC0.out.mono ?_; rintro e w6 ⟨rfl, hb6⟩; have xx3' := (hb6.cell (p := ⟨wr.heap.size, 3, none⟩) (block_lt_of_cell xx3)).trans xx3; have yy3' := (hb6.cell (p := ⟨wr.heap.size + 1, 3, none⟩) (block_lt_of_cell yy3)).trans yy3; have HB6 := Lib.hid (HS5.out.trans (hb6.mono HS5.out.size)); clear hb6)
                rw [e1]
                go_roundw
                case rel =>
                  have hXe : X.l.isEmpty = true := by rw [List.isEmpty_iff_length_eq_zero]; exact HLX.out
                  refine ⟨j + 1, by omega, by simp, Lib.hid ?_, HNB, HAL', Lib.hid (HBI.out.trans (HB6.out.mono HBW.out)), Lib.hid ⟨(HB6.out.cell (p := ⟨gp, 0, none⟩) HGPI.out).trans bp0, (HB6.out.cell (p := ⟨gp, 1, none⟩) HGPI.out).trans bp1⟩, Lib.hid (Nat.lt_of_lt_of_le HGPI.out HB6.out.size)⟩
                  rw [HKT.out, hXe]
                  simpa using (HOI.out.on HB6.out.toBelow).imp (PE.keep (HB6.out.toBelow.mono (Nat.le_trans HN.out HBW.out)))
                case measure => simp [intOf]; omega
              · have hpos : (0 : Int) < r := by omega
                have hroom := fun _ : Unit => room_for ps' p q j
                have HRM := Lib.hid (fun _ : Unit => (show (ps' ++ kidsP (p.take j) (q.take j)).length + 1 ≤ 1099511627776 by
                  have h1 := room_for ps' p q j
                  have h2 := HC.out ()
                  have h3 := HGK.out ()
                  have h4 := HZ.out
                  omega))
                have HNZ := Lib.hid hz
                clear hz hroom
                go_wp2_with (first
                  | (go_at_call 47; refine HC0.out.mono ?_; rintro e w6 ⟨rfl, hb6⟩; have xx3' := (hb6.cell (p := ⟨wr.heap.size, 3, none⟩) (block_lt_of_cell xx3)).trans xx3; have yy3' := (hb6.cell (p := ⟨wr.heap.size + 1, 3, none⟩) (block_lt_of_cell yy3)).trans yy3; have hb6' := HS5.out.trans (hb6.mono HS5.out.size); obtain ⟨w7, v', w8, hw7, hr, ho8, hb8, hne8, hgp8, hgl8⟩ := pair_push HOI.out hb6' (HRX.out.rl.keep (hb6'.toBelow.mono (Nat.le_trans HN.out HBW.out))) (HRY.out.rl.keep (hb6'.toBelow.mono (Nat.le_trans HN.out HBW.out))) (HRM.out ()) HBW.out HN.out HNB.out HGPI.out; rw [HLX.out, HLY.out] at hw7; have HRA := Lib.hid hr; have HO8 := Lib.hid ho8; have HB8 := Lib.hid hb8; have HNE8 := Lib.hid hne8; have HGP8 := Lib.hid hgp8; have HGL8 := Lib.hid hgl8; clear hb6 hb6' hr ho8 hb8 hne8 hgp8 hgl8)
                  | ((with_reducible refine is_append 93 rfl ?_); (with_reducible refine wpList_append_run rfl rfl HRA.out ?_ ?_ ?_); (· rfl); (· rfl)))
                rw [e1]
                go_roundw
                case rel =>
                  have hXe : X.l.isEmpty = false := by
                    cases hq : X.l.isEmpty
                    · rfl
                    · rw [List.isEmpty_iff_length_eq_zero, HLX.out] at hq
                      exact absurd hq HNZ.out
                  refine ⟨j + 1, by omega, by simp, Lib.hid ?_, HNE8, HAL', Lib.hid (HBI.out.trans HB8.out), Lib.hid ⟨cell_kept' HGP8.out bp0, cell_kept' HGP8.out bp1⟩, HGL8⟩
                  rw [HKT.out, hXe, ← List.append_assoc]
                  exact HO8.out
                case measure => simp [intOf]; omega
            · have HZZ := Lib.hid (HL.out.fail HAL.out HXY.out.1 HXY.out.2 h0)
              obtain ⟨o', ho'⟩ : ∃ o', oneC X Y = o' := ⟨_, rfl⟩
              rw [ho'] at C0 HZZ h0
              have h0' : (o' != 0) = true := by simp [h0]
              have HC0 := Lib.hid C0
              clear C0 h0 ho'
              go_wp2_with (go_at_call 47; refine HC0.out.mono ?_; rintro e w6 ⟨rfl, hb6⟩; have HB6 := Lib.hid (HS5.out.trans (hb6.mono HS5.out.size)); clear hb6)
              go_ret
              exact ⟨by rw [HZZ.out]; rfl, HB.out.trans (HBI.out.trans (HB6.out.mono HBW.out))⟩
          · obtain rfl : j = l := by omega
            go_wp2_with fail
            have ht1 : p.take j = p := by rw [← HLP.out, List.take_length]
            have ht2 : q.take j = q := by rw [← HLQ.out, List.take_length]
            have ho := HOI.out
            have ha := HAL.out
            rw [ht1, ht2] at ho
            rw [← HLP.out] at ha
            go_roundg (stSize ((ps' ++ kidsP p q).map (·.1)).reverse)
            case rel =>
              refine ⟨ps' ++ kidsP p q, Lib.hid ho, Lib.hid (HL.out.step ha), Lib.hid rfl, Lib.hid fun _ => ?_, Lib.hid (HB.out.trans HBI.out)⟩
              have h1 := Left.size (ps := ps') HPQ.out ha
              have h2 := HGK.out ()
              have h3 := HZ.out
              omega
            case measure =>
              have h1 := Left.size (ps := ps') HPQ.out ha
              have h3 := HZ.out
              omega
  · have h0' : (o != 0) = true := by simp [h0]
    have HN0 := Lib.hid (HNE.out h0)
    clear h0
    go_wp2_with (go_at_call 47; refine HC0.out.mono ?_; rintro e w2 ⟨rfl, hb2⟩; have HB2 := Lib.hid (HS.out.trans (hb2.mono HS.out.size)); clear hb2)
    go_ret
    exact ⟨by rw [HN0.out]; rfl, HB2.out⟩
theorem item_compare (x y : It) (A1 A2 : Option Addr) (c1 c2 n : Nat) (w : World) (hc : x.count ≤ 1099511627775) (hn : n ≤ w.heap.size) (h1 : AtB w n x A1 c1) (h2 : AtB w n y A2 c2) :
    Calls Try.prog 41 #[vI x A1 c1, vI y A2 c2] w fun e w' => e = .returned (.int .i64 (itC x y)) ∧ Below w.heap.size w w' :=
  (item_compareB x y A1 A2 c1 c2 n w hc hn h1 h2).mono fun _ _ h => ⟨h.1, h.2.toBelow⟩
end Go.Proofs.Ytmihoeholcaokaa
