/- Two schemas held against each other: the program's Same, the document's. -/
import Derived.Test.YtgbbgdjdomkohaaKBG
import Derived.Lib.QuietBelow
namespace Go.Proofs.Ytgbbgdjdomkohaa
open Go.RowKit Go.Sort

theorem RdN.two {w : World} {n : Nat} {A B : Option Addr} {xs ys : List Nd} {k m : Nat} (h : RdN w n A xs) (h' : RdN w n B ys) (hx : xs.length = m) (hy : ys.length = m) (hk : k < m) :
    (∃ b o x p, A = some ⟨b, o, none⟩ ∧ b < w.heap.size ∧ xs[k]? = some x ∧ x ∈ xs ∧ NdB w n x p ∧ ∀ j u, (nc x p)[j]? = some u → w.cell? ⟨b, o + k * 9 + j, none⟩ = some u) ∧
    ∃ b o x p, B = some ⟨b, o, none⟩ ∧ b < w.heap.size ∧ ys[k]? = some x ∧ x ∈ ys ∧ NdB w n x p ∧ ∀ j u, (nc x p)[j]? = some u → w.cell? ⟨b, o + k * 9 + j, none⟩ = some u := by
  constructor
  · obtain ⟨b, o, rfl, h1, h2, hc⟩ := h (by omega)
    have hk' : k < xs.length := by omega
    obtain ⟨p, h3, h4⟩ := hc k xs[k] (List.getElem?_eq_getElem hk')
    exact ⟨b, o, xs[k], p, rfl, h2, List.getElem?_eq_getElem hk', List.getElem_mem hk', h3, h4⟩
  · obtain ⟨b, o, rfl, h1, h2, hc⟩ := h' (by omega)
    have hk' : k < ys.length := by omega
    obtain ⟨p, h3, h4⟩ := hc k ys[k] (List.getElem?_eq_getElem hk')
    exact ⟨b, o, ys[k], p, rfl, h2, List.getElem?_eq_getElem hk', List.getElem_mem hk', h3, h4⟩
theorem sameS_false {a b : List Nd} : sameS a b = false ↔ a ≠ b := by simp [sameS]
theorem sameS_ne {xs ys : List Nd} {k : Nat} {x y : Nd} (hx : xs[k]? = some x) (hy : ys[k]? = some y) (e : sameN x y = false) : sameS xs ys = false :=
  sameS_false.2 (Two.ne hx hy (sameN_false.1 e))
theorem nine {w : World} {b o : Nat} {x : Nd} {p : Pl} (h : ∀ j u, (nc x p)[j]? = some u → w.cell? ⟨b, o + j, none⟩ = some u) :
    w.cell? ⟨b, o, none⟩ = some (.int .i64 x.k) ∧ w.cell? ⟨b, o + 1, none⟩ = some (.int .i64 x.lo) ∧ w.cell? ⟨b, o + 2, none⟩ = some (.int .i64 x.hi) ∧
    w.cell? ⟨b, o + 3, none⟩ = some (.int .i64 x.v.k) ∧ w.cell? ⟨b, o + 4, none⟩ = some (.int .u64 x.v.n) ∧ w.cell? ⟨b, o + 5, none⟩ = some (.string x.v.s) ∧ w.cell? ⟨b, o + 6, none⟩ = some (.slice p.Av x.v.l.length p.cv) ∧
    w.cell? ⟨b, o + 7, none⟩ = some (.slice p.Al x.l.length p.cl) ∧ w.cell? ⟨b, o + 8, none⟩ = some (.slice p.Af x.f.length p.cf) :=
  ⟨h 0 _ rfl, h 1 _ rfl, h 2 _ rfl, h 3 _ rfl, h 4 _ rfl, h 5 _ rfl, h 6 _ rfl, h 7 _ rfl, h 8 _ rfl⟩

set_option maxRecDepth 100000 in
set_option maxHeartbeats 8000000 in
theorem equal_func (xs ys : List Nd) (A B : Option Addr) (ca cb n : Nat) (w : World) (hn : n ≤ w.heap.size) (hx : RdN w n A xs) (hy : RdN w n B ys) (ho : ∀ x ∈ xs, okN x) (hm : xs.length ≤ 1099511627776) :
    Calls Try.prog 20 #[.slice A xs.length ca, .slice B ys.length cb, .func (.func 21) #[] #[]] w fun e w' => e = .returned (.bool (sameS xs ys)) ∧ Below w.heap.size w w' := by
  by_cases hl : xs.length = ys.length
  · have HL := Lib.hid hl
    obtain ⟨m, hmm⟩ : ∃ m, xs.length = m := ⟨_, rfl⟩
    rw [← hl, hmm]
    rw [hmm] at hm
    have HM := Lib.hid hmm
    have HX : Hid (∀ W, Below w.heap.size w W → RdN W n A xs ∧ RdN W n B ys) := Lib.hid fun W hb => ⟨hx.keep (hb.mono hn), hy.keep (hb.mono hn)⟩
    have HOK := Lib.hid ho
    have HN := Lib.hid hn
    clear hl hmm hx hy ho hn
    go_enter Try.func20, Try.ntmps20
    go_wp2_with fail
    go_loopw [17] (fun i wr => ∃ k : Nat, k ≤ m ∧ i = .int .i64 (k : Int) ∧ Hid (Below w.heap.size w wr) ∧ Hid (∀ j, j < k → xs[j]? = ys[j]?)) (fun i _ => m - (intOf i).toNat)
    case atStart => exact ⟨0, by omega, rfl, Lib.hid (Below.refl _ _), Lib.hid fun j hj => absurd hj (by omega)⟩
    case round =>
      obtain ⟨k, hk, rfl, HBr, HE⟩ := hrel
      by_cases hlt : k < m
      · obtain ⟨⟨b1, o1, x, p, rfl, hb1, X, mX, ndx, cx⟩, b2, o2, y, q, rfl, hb2, Y, -, ndy, cy⟩ := (HX.out wr HBr.out).1.two (HX.out wr HBr.out).2 HM.out (HL.out.symm.trans HM.out) hlt
        obtain ⟨c0, c1, c2, c3, c4, c5, c6, c7, c8⟩ := nine cx
        have cy' : ∀ j u, (nc y q)[j]? = some u → (wr.alloc (.cells (nc x p) 43)).cell? ⟨b2, o2 + k * 9 + j, none⟩ = some u := fun j u hu => ((below_alloc wr _).cell (p := ⟨b2, _, none⟩) hb2).trans (cy j u hu)
        obtain ⟨d0, d1, d2, d3, d4, d5, d6, d7, d8⟩ := nine cy'
        have hox := HOK.out x mX
        have hl1 := hox.lf
        have hcnt := hox.v.1
        have hnr : n ≤ wr.heap.size := Nat.le_trans HN.out HBr.out.size
        have HSN := Lib.hid (fun W (hW : Below wr.heap.size wr W) => sch_sameNode x y p q n W (Nat.le_trans hnr hW.size) (ndx.keep (hW.mono hnr)) (ndy.keep (hW.mono hnr)) (by omega) (by omega) (by omega))
        have HAL := Lib.hid (two_below wr (.cells (nc x p) 43) (.cells (nc y q) 43))
        have HXY := Lib.hid (And.intro X Y)
        unfold nc at HAL d0 d1 d2 d3 d4 d5 d6 d7 d8
        clear cx cy cy' hox hl1 hcnt hnr X mX Y ndx ndy hb1 hb2
        obtain ⟨r, hr⟩ : ∃ r, sameN x y = r := ⟨_, rfl⟩
        rw [hr] at HSN
        have HR := Lib.hid hr
        clear hr
        simp only [vN] at HSN
        cases r with
        | true =>
          go_wp2_with (first
            | (go_at_call 21; refine (HSN.out _ HAL.out).mono ?_; rintro e w4 ⟨rfl, hb4⟩; have HB4 := Lib.hid (HBr.out.trans ((HAL.out.trans (hb4.mono HAL.out.size)).mono HBr.out.size)); clear hb4)
            | fail)
          go_roundw
          case rel => exact ⟨k + 1, by omega, by simp, HB4, Lib.hid fun j hj => by
            by_cases e : j = k
            · subst e; rw [HXY.out.1, HXY.out.2, sameN_true.1 HR.out]
            · exact HE.out j (by omega)⟩
          case measure => simp [intOf]; omega
        | false =>
          have HF : Hid (sameS xs ys = false) := Lib.hid (sameS_ne HXY.out.1 HXY.out.2 HR.out)
          go_wp2_with (first
            | (go_at_call 21; refine (HSN.out _ HAL.out).mono ?_; rintro e w4 ⟨rfl, hb4⟩; have HB4 := Lib.hid (HBr.out.trans ((HAL.out.trans (hb4.mono HAL.out.size)).mono HBr.out.size)); clear hb4)
            | fail)
          go_ret
          exact ⟨by rw [HF.out]; rfl, HB4.out⟩
      · obtain rfl : k = m := by omega
        have HF : Hid (sameS xs ys = true) := Lib.hid (sameS_true.2 (list_eq_upto HL.out (by rw [HM.out]; exact HE.out)))
        go_wp2_with fail
        go_ret
        exact ⟨by rw [HF.out]; rfl, HBr.out⟩
  · have HF : Hid (sameS xs ys = false) := Lib.hid (sameS_false.2 fun h => hl (by rw [h]))
    have hne : ((xs.length : Int) != ys.length) = true := by simp; omega
    go_enter Try.func20, Try.ntmps20
    go_wp2_with fail
    go_ret
    exact ⟨by rw [HF.out]; rfl, Below.refl _ _⟩

set_option maxRecDepth 100000 in
set_option maxHeartbeats 2000000 in
theorem sch_Same (xs ys : List Nd) (A B : Option Addr) (ca cb n : Nat) (w : World) (hn : n ≤ w.heap.size) (hx : RdN w n A xs) (hy : RdN w n B ys) (ho : ∀ x ∈ xs, okN x) (hm : xs.length ≤ 1099511627776) :
    Calls Try.prog 9 #[vS A xs ca, vS B ys cb] w fun e w' => e = .returned (.bool (sameS xs ys)) ∧ Below w.heap.size w w' := by
  obtain ⟨w1, hw1, b1, b2, S⟩ := iblk2 w 24 #[.slice A xs.length ca] #[.slice B ys.length cb]
  have p0 := sblk b1
  have q0 := sblk b2
  have HC := Lib.hid (equal_func xs ys A B ca cb n w1 (Nat.le_trans hn S.size) (hx.keep (S.mono hn)) (hy.keep (S.mono hn)) ho hm)
  have HS := Lib.hid S
  clear S b1 b2 hx hy ho hn hm
  unfold vS
  generalize sameS xs ys = r at *
  go_enter Try.func9, Try.ntmps9
  go_wp2_with (first
    | (go_at_call 20; refine HC.out.mono ?_; rintro e w4 ⟨rfl, hb4⟩; have HB4 := Lib.hid (HS.out.trans (hb4.mono HS.out.size)); clear hb4)
    | fail)
  go_ret
  exact ⟨rfl, HB4.out⟩

set_option maxRecDepth 100000 in
set_option maxHeartbeats 8000000 in
theorem sref_Same (xs ys : List Nd) (A B : Option Addr) (ca cb n : Nat) (w : World) (hn : n ≤ w.heap.size) (hx : RdN w n A xs) (hy : RdN w n B ys) (ho : ∀ x ∈ xs, okN x) (hm : xs.length ≤ 1099511627776) :
    Calls Try.prog 10 #[vS A xs ca, vS B ys cb] w fun e w' => e = .returned (.bool (sameS xs ys)) ∧ Below w.heap.size w w' := by
  obtain ⟨w1, hw1, b1, b2, S⟩ := iblk2 w 24 #[.slice A xs.length ca] #[.slice B ys.length cb]
  have p0 := sblk b1
  have q0 := sblk b2
  have HX : Hid (∀ W, Below w.heap.size w W → RdN W n A xs ∧ RdN W n B ys) := Lib.hid fun W hb => ⟨hx.keep (hb.mono hn), hy.keep (hb.mono hn)⟩
  have HOK := Lib.hid ho
  have HN := Lib.hid hn
  have HS := Lib.hid S
  have HUP : Hid (∀ W, Below w1.heap.size w1 W → Below w.heap.size w W) := Lib.hid fun W hW => S.trans (hW.mono S.size)
  unfold vS
  by_cases hl : xs.length = ys.length
  · have HL := Lib.hid hl
    have HBB : Hid (∀ W, Below w1.heap.size w1 W → W.cell? ⟨w.heap.size, 0, none⟩ = some (.slice A xs.length ca) ∧ W.cell? ⟨w.heap.size + 1, 0, none⟩ = some (.slice B xs.length cb)) := Lib.hid fun W hW => ⟨sblk (b1.on hW), by rw [hl]; exact sblk (b2.on hW)⟩
    clear b1 b2 S hx hy ho hn
    obtain ⟨m, hmm⟩ : ∃ m, xs.length = m := ⟨_, rfl⟩
    have HM := Lib.hid hmm
    rw [← hl] at q0 hw1 ⊢
    rw [hmm] at hm p0 q0 hw1 HBB ⊢
    clear hl hmm
    go_enter Try.func10, Try.ntmps10
    go_wp2_with fail
    clear p0 q0 hw1
    go_loopw [5] (fun i wr => ∃ k : Nat, k ≤ m ∧ i = .int .i64 (k : Int) ∧ Hid (Below w1.heap.size w1 wr) ∧ Hid (∀ j, j < k → xs[j]? = ys[j]?)) (fun i _ => m - (intOf i).toNat)
    case atStart => exact ⟨0, by omega, rfl, Lib.hid (Below.refl _ _), Lib.hid fun j hj => absurd hj (by omega)⟩
    case round =>
      obtain ⟨k, hk, rfl, HBr, HE⟩ := hrel
      by_cases hlt : k < m
      · obtain ⟨⟨b1, o1, x, p, rfl, hb1, X, mX, ndx, cx⟩, b2, o2, y, q, rfl, hb2, Y, -, ndy, cy⟩ := (HX.out wr (HUP.out _ HBr.out)).1.two (HX.out wr (HUP.out _ HBr.out)).2 HM.out (HL.out.symm.trans HM.out) hlt
        obtain ⟨s0, t0⟩ := HBB.out _ HBr.out
        obtain ⟨c0, c1, c2, c3, c4, c5, c6, c7, c8⟩ := nine cx
        obtain ⟨d0, d1, d2, d3, d4, d5, d6, d7, d8⟩ := nine cy
        have hox := HOK.out x mX
        have hl1 := hox.lf
        have hcnt := hox.v.1
        have hnr : n ≤ wr.heap.size := Nat.le_trans HN.out (HUP.out _ HBr.out).size
        have HSN := Lib.hid (fun W (hW : Below wr.heap.size wr W) => ref_SameNode x y p q n W (Nat.le_trans hnr hW.size) (ndx.keep (hW.mono hnr)) (ndy.keep (hW.mono hnr)) (by omega) (by omega) (by omega))
        have HXY := Lib.hid (And.intro X Y)
        clear cx cy hox hl1 hcnt hnr X mX Y ndx ndy hb1 hb2
        obtain ⟨r, hr⟩ : ∃ r, sameN x y = r := ⟨_, rfl⟩
        rw [hr] at HSN
        have HR := Lib.hid hr
        clear hr
        simp only [vN] at HSN
        have K1 := Lib.hid (fun dq os => Calls.regrown_of (HSN.out (grow (redrawn wr dq) os) (below_regrown wr dq os)))
        have k0 := cell_regrown s0
        have k1 := cell_regrown t0
        have k2 := cell_regrown c0
        have k3 := cell_regrown c1
        have k4 := cell_regrown c2
        have k5 := cell_regrown c3
        have k6 := cell_regrown c4
        have k7 := cell_regrown c5
        have k8 := cell_regrown c6
        have k9 := cell_regrown c7
        have k10 := cell_regrown c8
        have l2 := cell_regrown d0
        have l3 := cell_regrown d1
        have l4 := cell_regrown d2
        have l5 := cell_regrown d3
        have l6 := cell_regrown d4
        have l7 := cell_regrown d5
        have l8 := cell_regrown d6
        have l9 := cell_regrown d7
        have l10 := cell_regrown d8
        clear HSN
        cases r with
        | true =>
          go_wp2_with fail
          clear s0 t0 c0 c1 c2 c3 c4 c5 c6 c7 c8 d0 d1 d2 d3 d4 d5 d6 d7 d8
          refine wp_region_quiet_below (by kernel_rfl) (by kernel_rfl) ?_
          repeat (quiet_step (exact K1.out _ _))
          refine wpQuiet_nil ?_
          intro _ hw'
          obtain ⟨⟨dq, osq⟩, hw''⟩ := hw'
          subst hw''
          have HQ := Lib.hid (below_regrown wr dq osq)
          generalize grow (redrawn wr dq) osq = w4 at *
          go_wp2_with fail
          go_roundw
          case rel => exact ⟨k + 1, by omega, by simp, Lib.hid (HBr.out.trans (HQ.out.mono HBr.out.size)), Lib.hid fun j hj => by
            by_cases e : j = k
            · subst e; rw [HXY.out.1, HXY.out.2, sameN_true.1 HR.out]
            · exact HE.out j (by omega)⟩
          case measure => simp [intOf]; omega
        | false =>
          have HF : Hid (sameS xs ys = false) := Lib.hid (sameS_ne HXY.out.1 HXY.out.2 HR.out)
          go_wp2_with fail
          clear s0 t0 c0 c1 c2 c3 c4 c5 c6 c7 c8 d0 d1 d2 d3 d4 d5 d6 d7 d8
          refine wp_region_quiet_below (by kernel_rfl) (by kernel_rfl) ?_
          repeat (quiet_step (exact K1.out _ _))
          refine wpQuiet_nil ?_
          intro _ hw'
          obtain ⟨⟨dq, osq⟩, hw''⟩ := hw'
          subst hw''
          have HQ := Lib.hid (below_regrown wr dq osq)
          generalize grow (redrawn wr dq) osq = w4 at *
          go_wp2_with fail
          go_ret
          exact ⟨by rw [HF.out]; rfl, HUP.out _ (HBr.out.trans (HQ.out.mono HBr.out.size))⟩
      · obtain rfl : k = m := by omega
        have HF : Hid (sameS xs ys = true) := Lib.hid (sameS_true.2 (list_eq_upto HL.out (by rw [HM.out]; exact HE.out)))
        obtain ⟨s0, t0⟩ := HBB.out _ HBr.out
        go_wp2_with fail
        go_ret
        exact ⟨by rw [HF.out]; rfl, HUP.out _ HBr.out⟩
  · have HF : Hid (sameS xs ys = false) := Lib.hid (sameS_false.2 fun h => hl (by rw [h]))
    have hne : ((xs.length : Int) != ys.length) = true := by simp; omega
    clear b1 b2 S hx hy ho hn
    go_enter Try.func10, Try.ntmps10
    go_wp2_with fail
    go_ret
    exact ⟨by rw [HF.out]; rfl, HS.out⟩
end Go.Proofs.Ytgbbgdjdomkohaa
