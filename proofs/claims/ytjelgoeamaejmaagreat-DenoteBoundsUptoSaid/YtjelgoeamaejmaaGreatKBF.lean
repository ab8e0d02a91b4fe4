/- The document's wrong: kinds 1, 2. -/
import Derived.Test.YtjelgoeamaejmaaGreatKBE
namespace Go.Proofs.YtjelgoeamaejmaaGreat
open Go.RowKit

set_option maxRecDepth 100000 in
set_option maxHeartbeats 16000000 in
theorem sref_wrong1 (xs : List Nd) (A : Option Addr) (cap n i : Nat) (x : Nd) (w : World) (hn : n ≤ w.heap.size) (hx : RdN w n A xs) (hX : xs[i]? = some x) (ho : okN x) (hkk : x.k = 1) (hm : xs.length ≤ 1099511627776) :
    Calls Tryz.prog 24 #[vS A xs cap, .int .i64 (i : Int)] w fun e w' => e = .returned (.int .i64 (wrongN chI x i xs.length)) ∧ Below w.heap.size w w' := by
  have hi := (List.getElem?_eq_some_iff.1 hX).1
  obtain ⟨b, o, x', p, rfl, hbn, hbw, X, mX, hnd, c0, c1, c2, c3, c4, c5, c6, c7, c8⟩ := hx.get (i := i) hi
  obtain rfl : x' = x := by rw [X] at hX; injection hX
  obtain ⟨Av, cv, Al, cl, Af, cf⟩ := p
  have b1 := Blk.fresh w 24 #[.slice (some ⟨b, o, none⟩) xs.length cap]
  have b2 := Blk.freshAt (w.alloc (.cells #[.slice (some ⟨b, o, none⟩) xs.length cap] 24)) 47 (nc x' ⟨Av, cv, Al, cl, Af, cf⟩) (w.heap.size + 1) (by simp)
  have S := two_below w (.cells #[.slice (some ⟨b, o, none⟩) xs.length cap] 24) (.cells (nc x' ⟨Av, cv, Al, cl, Af, cf⟩) 47)
  obtain ⟨w2, hw2⟩ : ∃ w2, (w.alloc (.cells #[.slice (some ⟨b, o, none⟩) xs.length cap] 24)).alloc (.cells (nc x' ⟨Av, cv, Al, cl, Af, cf⟩) 47) = w2 := ⟨_, rfl⟩
  have b1' := b1.alloc (.cells (nc x' ⟨Av, cv, Al, cl, Af, cf⟩) 47)
  rw [hw2] at b1' b2 S
  have hmb : (xs.length : Int) ≤ 1099511627776 := by omega
  have hib : (i : Int) < xs.length := by omega
  have hsz := ho.lf
  have hnl := length_namedN x'
  have C1 := fun (hk : 0 ≤ x'.k) (hk' : x'.k ≤ 10) W (hW : Below w.heap.size w W) => ref_form x' ⟨Av, cv, Al, cl, Af, cf⟩ n W (Nat.le_trans hn hW.size) (hnd.keep (hW.mono hn)) ho.v (by omega) (by omega) hk hk'
  have C4 := fun W (hW : Below w.heap.size w W) => ref_Named x' ⟨Av, cv, Al, cl, Af, cf⟩ n W (Nat.le_trans hn hW.size) (hnd.keep (hW.mono hn)) ho.lf
  have HF : Hid (∀ W, Below w.heap.size w W → RdF W n Af x'.f) := Lib.hid fun W hW => (hnd.keep (hW.mono hn)).f
  have HOK := Lib.hid ho.f
  have HW : Hid (wrongN chI x' i xs.length = if x'.k < 0 ∨ 10 < x'.k then 18 else if formN chI x' = false then 11 else if rangedN x' = false then 15 else if keysN x'.f ≠ 0 then keysN x'.f else if (namedN x').any (nameB i xs.length) then 13 else 0) := Lib.hid rfl
  have HRG : Hid (rangedN x' = if x'.k = 2 ∨ x'.k = 3 ∨ x'.k = 6 then decide (0 ≤ x'.lo) && decide (x'.lo ≤ x'.hi) else if x'.k = 1 then decide (x'.lo ≤ x'.hi) else if x'.k = 9 then decide (0 ≤ x'.lo) else true) := Lib.hid rfl
  obtain ⟨q, hq⟩ : ∃ q, x'.f.length = q := ⟨_, rfl⟩
  have HQ := Lib.hid hq
  have hqb : (q : Int) ≤ 1099511627776 := by omega
  have HLN : Hid ((namedN x').length ≤ 1099511627776) := Lib.hid (by omega)
  have HCL : Hid (∀ W, Below w2.heap.size w2 W → W.cell? ⟨w.heap.size, 0, none⟩ = some (.slice (some ⟨b, o, none⟩) xs.length cap) ∧ Blk W (w.heap.size + 1) 47 #[.int .i64 x'.k, .int .i64 x'.lo, .int .i64 x'.hi, .int .i64 x'.v.k, .int .u64 x'.v.n, .string x'.v.s, .slice Av x'.v.l.length cv, .slice Al x'.l.length cl, .slice Af q cf]) := Lib.hid fun W hb => ⟨sblk (b1'.on hb), by rw [← hq]; exact b2.on hb⟩
  have HS := Lib.hid S
  have HUP : Hid (∀ W, Below w2.heap.size w2 W → Below w.heap.size w W) := Lib.hid fun W hW => S.trans (hW.mono S.size)
  obtain ⟨s0, sb⟩ := HCL.out w2 (Below.refl _ _)
  obtain ⟨p0, p1, p2, p3, p4, p5, p6, p7, p8⟩ := nblk sb
  have hal := fun {o' : Nat} {v : Value} (h : w.cell? ⟨b, o', none⟩ = some v) => ((below_alloc w (.cells #[.slice (some ⟨b, o, none⟩) xs.length cap] 24)).cell (p := ⟨b, o', none⟩) hbw).trans h
  replace c0 := hal c0
  replace c1 := hal c1
  replace c2 := hal c2
  replace c3 := hal c3
  replace c4 := hal c4
  replace c5 := hal c5
  replace c6 := hal c6
  replace c7 := hal c7
  replace c8 := hal c8
  clear hal
  unfold nc at hw2
  simp only at hw2 c6 c7 c8
  rw [hq] at hw2 c8
  have HW2 := Lib.hid hw2
  unfold vS
  generalize wrongN chI x' i xs.length = res at *
  generalize formN chI x' = r1 at *
  generalize rangedN x' = r2 at *
  generalize hK3 : keysN x'.f = r3 at *
  generalize hL : namedN x' = L at *
  clear hL b1 b1' b2 sb S hn hx hX X mX hnd ho hsz hnl hq hi hbn hbw hm
  simp only [vN] at C1 C4
  rw [HQ.out] at C1 C4
  have HC1 := Lib.hid C1
  have HC4 := Lib.hid C4
  clear C1 C4
  generalize x'.f = fs at *
  generalize xs.length = m at *
  generalize x'.k = kk at *
  generalize x'.lo = lo at *
  generalize x'.hi = hi at *
  generalize x'.v.k = vk at *
  generalize x'.v.n = vn at *
  generalize x'.v.s = vs at *
  generalize x'.v.l.length = vl at *
  generalize x'.l.length = ll at *
  have HKK := Lib.hid hkk
  clear hkk
  go_enter Tryz.func24, Tryz.ntmps24
  by_cases hk : kk < 0 ∨ 10 < kk
  · have HR : Hid (res = 18) := Lib.hid (by rw [HW.out, if_pos hk])
    go_wp2_with fail
    all_goals first
      | (go_ret; exact ⟨by rw [HR.out]; rfl, HS.out⟩)
      | (exfalso; omega)
  have hk1 : ¬ kk < 0 := fun h => hk (.inl h)
  have hk2 : ¬ 10 < kk := fun h => hk (.inr h)
  have HC1' := Lib.hid (HC1.out (by omega) (by omega))
  have HW' := Lib.hid ((HW.out).trans (if_neg hk))
  clear hk HC1 HW
  have HK3 : Hid (keysN fs = r3) := Lib.hid hK3
  clear hK3
  cases r1 with
  | false =>
    have HR : Hid (res = 11) := Lib.hid (by rw [HW'.out]; rfl)
    go_wp2_with (first
      | (go_at_call 37; refine (HC1'.out _ HS.out).mono ?_; rintro e w3 ⟨rfl, hb3⟩; have HB3 := Lib.hid hb3; clear hb3)
      | fail)
    go_ret
    exact ⟨by rw [HR.out]; rfl, HUP.out _ HB3.out⟩
  | true =>
  have hkk := HKK.out
  clear HKK
  subst hkk
  cases r2 with
  | false =>
    have HR : Hid (res = 15) := Lib.hid (by rw [HW'.out]; rfl)
    have g1 : hi < lo := by have := HRG.out; simp at this; omega
    go_wp2_with (first
          | (go_at_call 37; refine (HC1'.out _ HS.out).mono ?_; rintro e w3 ⟨rfl, hb3⟩; obtain ⟨s0', sb⟩ := HCL.out w3 hb3; obtain ⟨u0, u1, u2, u3, u4, u5, u6, u7, u8⟩ := nblk sb; have HB3 := Lib.hid hb3; clear hb3 sb)
          | fail)
    all_goals first
      | (go_ret; exact ⟨by rw [HR.out]; rfl, HUP.out _ HB3.out⟩)
      | (exfalso; omega)
  | true =>
  have g1 : ¬ hi < lo := by have := HRG.out; simp at this; omega
  clear HRG
  have HW'' : Hid (res = if r3 ≠ 0 then r3 else if L.any (nameB i m) then 13 else 0) := Lib.hid (by rw [HW'.out]; rfl)
  go_wp2_with (first
        | (go_at_call 37; refine (HC1'.out _ HS.out).mono ?_; rintro e w3 ⟨rfl, hb3⟩; obtain ⟨s0', sb⟩ := HCL.out w3 hb3; obtain ⟨u0, u1, u2, u3, u4, u5, u6, u7, u8⟩ := nblk sb; have HB3 := Lib.hid hb3; clear hb3 sb)
        | fail)
  clear p0 p1 p2 p3 p4 p5 p6 p7 p8 u0 u1 u2 u3 u4 u5 u6 u7 u8 s0 s0' hw2 c0 c1 c2 c3 c4 c5 c6 c7 c8
  go_loopw [6] (fun v wr => ∃ k : Nat, k ≤ q ∧ v = .int .i64 (k : Int) ∧ Hid (Below w2.heap.size w2 wr) ∧ Hid (∀ j, j < k → keyE fs j = 0)) (fun v _ => q - (intOf v).toNat)
  case atStart => exact ⟨0, by omega, rfl, HB3, Lib.hid fun j hj => absurd hj (by omega)⟩
  case round =>
    obtain ⟨k, hk, rfl, HBr, HE⟩ := hrel
    obtain ⟨a0, ab⟩ := HCL.out _ HBr.out
    obtain ⟨-, -, -, -, -, -, -, -, a8⟩ := nblk ab
    clear ab
    by_cases hlt : k < q
    · obtain ⟨bf, of, fd, rfl, -, -, X, d0, -, -⟩ := (HF.out _ (HUP.out _ HBr.out)).get (i := k) (by rw [HQ.out]; exact hlt)
      have hsz := HOK.out fd (List.mem_of_getElem? X)
      have HU := Lib.hid (fun W => ref_First fd.key (Nat.le_trans hsz (by decide)) W)
      have HX := Lib.hid X
      generalize uat uq0 (sbytes fd.key) 0 = at0 at *
      by_cases h1 : uok uq0 (sbytes fd.key) = true
      · rw [h1] at HU
        by_cases h2 : 1021 < fd.key.size
        · have HR : Hid (r3 = 4) := Lib.hid (HK3.out.symm.trans (keys_len HX.out HE.out h1 h2))
          have HF' : Hid (res = 4) := Lib.hid (by rw [HW''.out, HR.out]; rfl)
          have hz : (1021 : Int) < (fd.key.size : Int) := by omega
          clear h1 h2 X hsz
          go_wp2_with (first
            | (go_at_call 38; refine (HU.out _).mono ?_; rintro e w' ⟨rfl, rfl⟩)
            | fail)
          go_ret
          exact ⟨by rw [HF'.out]; rfl, HUP.out _ HBr.out⟩
        · have hz : (fd.key.size : Int) ≤ 1021 := by omega
          have HH := Lib.hid (And.intro h1 h2)
          clear h1 h2 X hsz
          go_wp2_with (first
            | (go_at_call 38; refine (HU.out _).mono ?_; rintro e w' ⟨rfl, rfl⟩)
            | fail)
          clear a0 a8 d0
          obtain ⟨wo, rfl⟩ : ∃ wo, wo = wr := ⟨_, rfl⟩
          go_loopw [9] (fun v wr => ∃ j : Nat, j ≤ k ∧ v = .int .i64 (j : Int) ∧ Hid (Below w2.heap.size w2 wr) ∧ Hid (∀ t y, t < j → fs[t]? = some y → y.key ≠ fd.key)) (fun v _ => k - (intOf v).toNat)
          case atStart => exact ⟨0, by omega, rfl, HBr, Lib.hid fun t y ht => absurd ht (by omega)⟩
          case round =>
            obtain ⟨j, hj, rfl, HBj, HEj⟩ := hrel
            obtain ⟨a0, ab⟩ := HCL.out _ HBj.out
            obtain ⟨-, -, -, -, -, -, -, -, a8⟩ := nblk ab
            clear ab
            by_cases hjk : j < k
            · obtain ⟨bf', of', fd', e1, -, -, Y, d0, -, -⟩ := (HF.out _ (HUP.out _ HBj.out)).get (i := j) (by rw [HQ.out]; omega)
              obtain ⟨bf2, of2, fd2, e2, -, -, Z, d1, -, -⟩ := (HF.out _ (HUP.out _ HBj.out)).get (i := k) (by rw [HQ.out]; omega)
              injection e1 with e1
              injection e1 with e11 e12 _
              subst e11 e12
              injection e2 with e2
              injection e2 with e21 e22 _
              subst e21 e22
              obtain rfl : fd2 = fd := by have := HX.out; rw [Z] at this; injection this
              have hjq : j < q := by omega
              have HY := Lib.hid Y
              clear Y Z
              by_cases e : fd'.key = fd2.key
              · have HR : Hid (r3 = 14) := Lib.hid (HK3.out.symm.trans (keys_twice HX.out HE.out HH.out.1 HH.out.2 (mem_keys hjk HY.out e)))
                have HF' : Hid (res = 14) := Lib.hid (by rw [HW''.out, HR.out]; rfl)
                rw [e] at d0
                clear e
                go_wp2_with fail
                go_quiet (fail)
                have HQ2 := Lib.hid (below_drewN (Below.refl wr.heap.size wr) nq)
                generalize wr.drewN nq = w4 at *
                go_wp2_with fail
                go_ret
                exact ⟨by rw [HF'.out]; rfl, HUP.out _ (HBj.out.trans (HQ2.out.mono HBj.out.size))⟩
              · have e1 : (fd'.key.toList == fd2.key.toList) = false := beq_eq_false_iff_ne.2 fun h => e (text_eq h)
                have HNE := Lib.hid e
                clear e
                go_wp2_with fail
                go_quiet (fail)
                have HQ2 := Lib.hid (below_drewN (Below.refl wr.heap.size wr) nq)
                generalize wr.drewN nq = w4 at *
                go_wp2_with fail
                go_roundw
                case rel => exact ⟨j + 1, by omega, by simp, Lib.hid (HBj.out.trans (HQ2.out.mono HBj.out.size)), Lib.hid fun t y ht hy => by
                  by_cases et : t = j
                  · subst et
                    rw [HY.out] at hy
                    injection hy with hy
                    rw [← hy]
                    exact HNE.out
                  · exact HEj.out t y (by omega) hy⟩
                case measure => simp [intOf]; omega
            · obtain rfl : j = k := by omega
              have HNX : Hid (keyE fs j = 0) := Lib.hid (keyE_ok HX.out HH.out.1 HH.out.2 (not_mem_keys HEj.out))
              go_wp2_with fail
              go_roundw
              case rel => exact ⟨j + 1, by omega, by simp, HBj, Lib.hid fun t ht => by
                by_cases e : t = j
                · rw [e]; exact HNX.out
                · exact HE.out t (by omega)⟩
              case measure => simp [intOf]; omega
      · have h1' : uok uq0 (sbytes fd.key) = false := by simpa using h1
        rw [h1'] at HU
        have HR : Hid (r3 = 6) := Lib.hid (HK3.out.symm.trans (keys_utf HX.out HE.out h1'))
        have HF' : Hid (res = 6) := Lib.hid (by rw [HW''.out, HR.out]; rfl)
        clear h1 h1' X hsz
        go_wp2_with (first
          | (go_at_call 38; refine (HU.out _).mono ?_; rintro e w' ⟨rfl, rfl⟩)
          | fail)
        go_ret
        exact ⟨by rw [HF'.out]; rfl, HUP.out _ HBr.out⟩
    · obtain rfl : k = q := by omega
      have HR : Hid (r3 = 0) := Lib.hid (HK3.out.symm.trans (keys_none (by rw [HQ.out]; exact HE.out)))
      have HRES : Hid (res = if L.any (nameB i m) then 13 else 0) := Lib.hid (by rw [HW''.out, HR.out]; rfl)
      obtain ⟨-, ab⟩ := HCL.out _ HBr.out
      obtain ⟨y0, y1, y2, y3, y4, y5, y6, y7, -⟩ := nblk ab
      go_wp2_with (first
        | (go_at_call 39; refine (HC4.out _ (HUP.out _ HBr.out)).mono ?_; rintro e w5 ⟨⟨v, rfl, hO⟩, hb5⟩; obtain ⟨A', cap', rfl, -, -, -, -, hrd⟩ := hO.form; have HRD := Lib.hid hrd; have HB5 := Lib.hid (HBr.out.trans (hb5.mono HBr.out.size)); clear hb5 hO hrd)
        | fail)
      clear a0 a8 y0 y1 y2 y3 y4 y5 y6 y7 ab hlt hk
      obtain ⟨z, hz⟩ : ∃ z, L.length = z := ⟨_, rfl⟩
      have HZ := Lib.hid hz
      have hzb : (z : Int) ≤ 1099511627776 := by have := HLN.out; omega
      rw [hz]
      clear hz
      obtain ⟨wo, rfl⟩ : ∃ wo, wo = wr := ⟨_, rfl⟩
      go_loopw [11] (fun v wr => ∃ j : Nat, j ≤ z ∧ v = .int .i64 (j : Int) ∧ Hid (Below w5.heap.size w5 wr) ∧ Hid (∀ t, t < j → nameB i m (L.getD t 0) = false)) (fun v _ => z - (intOf v).toNat)
      case atStart => exact ⟨0, by omega, rfl, Lib.hid (Below.refl _ _), Lib.hid fun t ht => absurd ht (by omega)⟩
      case round =>
        obtain ⟨j, hj, rfl, HBj, HEj⟩ := hrel
        obtain ⟨a0, -⟩ := HCL.out _ (HB5.out.trans (HBj.out.mono HB5.out.size))
        by_cases hjk : j < z
        · obtain ⟨bb, oo, rfl, -, d0⟩ := (HRD.out.on HBj.out).get (i := j) (by rw [HZ.out]; exact hjk)
          obtain ⟨t, ht⟩ : ∃ t, L.getD j 0 = t := ⟨_, rfl⟩
          rw [ht] at d0
          have HT := Lib.hid ht
          clear ht
          by_cases h1 : t ≤ (i : Int)
          · have HF' : Hid (res = 13) := Lib.hid (by rw [HRES.out, if_pos (any_some_of (j := j) (by rw [HZ.out]; exact hjk) (by rw [HT.out]; simp [nameB, h1]))])
            go_wp2_with fail
            go_quiet (fail)
            have HQ2 := Lib.hid (below_drewN (Below.refl wr.heap.size wr) nq)
            generalize wr.drewN nq = w6 at *
            go_wp2_with fail
            go_ret
            exact ⟨by rw [HF'.out]; rfl, HUP.out _ (HB5.out.trans ((HBj.out.trans (HQ2.out.mono HBj.out.size)).mono HB5.out.size))⟩
          · by_cases h2 : (m : Int) ≤ t
            · have HF' : Hid (res = 13) := Lib.hid (by rw [HRES.out, if_pos (any_some_of (j := j) (by rw [HZ.out]; exact hjk) (by rw [HT.out]; simp [nameB, h2]))])
              go_wp2_with fail
              go_quiet (fail)
              have HQ2 := Lib.hid (below_drewN (Below.refl wr.heap.size wr) nq)
              generalize wr.drewN nq = w6 at *
              go_wp2_with fail
              go_ret
              exact ⟨by rw [HF'.out]; rfl, HUP.out _ (HB5.out.trans ((HBj.out.trans (HQ2.out.mono HBj.out.size)).mono HB5.out.size))⟩
            · have HN : Hid (nameB i m (L.getD j 0) = false) := Lib.hid (by rw [HT.out]; simp [nameB]; omega)
              go_wp2_with fail
              go_quiet (fail)
              have HQ2 := Lib.hid (below_drewN (Below.refl wr.heap.size wr) nq)
              generalize wr.drewN nq = w6 at *
              go_wp2_with fail
              go_roundw
              case rel => exact ⟨j + 1, by omega, by simp, Lib.hid (HBj.out.trans (HQ2.out.mono HBj.out.size)), Lib.hid fun t ht => by
                by_cases e : t = j
                · rw [e]; exact HN.out
                · exact HEj.out t (by omega)⟩
              case measure => simp [intOf]; omega
        · obtain rfl : j = z := by omega
          have HF' : Hid (res = 0) := Lib.hid (by rw [HRES.out, any_none_of (by rw [HZ.out]; exact HEj.out)]; rfl)
          go_wp2_with fail
          go_ret
          exact ⟨by rw [HF'.out]; rfl, HUP.out _ (HB5.out.trans (HBj.out.mono HB5.out.size))⟩

set_option maxRecDepth 100000 in
set_option maxHeartbeats 16000000 in
theorem sref_wrong2 (xs : List Nd) (A : Option Addr) (cap n i : Nat) (x : Nd) (w : World) (hn : n ≤ w.heap.size) (hx : RdN w n A xs) (hX : xs[i]? = some x) (ho : okN x) (hkk : x.k = 2) (hm : xs.length ≤ 1099511627776) :
    Calls Tryz.prog 24 #[vS A xs cap, .int .i64 (i : Int)] w fun e w' => e = .returned (.int .i64 (wrongN chI x i xs.length)) ∧ Below w.heap.size w w' := by
  have hi := (List.getElem?_eq_some_iff.1 hX).1
  obtain ⟨b, o, x', p, rfl, hbn, hbw, X, mX, hnd, c0, c1, c2, c3, c4, c5, c6, c7, c8⟩ := hx.get (i := i) hi
  obtain rfl : x' = x := by rw [X] at hX; injection hX
  obtain ⟨Av, cv, Al, cl, Af, cf⟩ := p
  have b1 := Blk.fresh w 24 #[.slice (some ⟨b, o, none⟩) xs.length cap]
  have b2 := Blk.freshAt (w.alloc (.cells #[.slice (some ⟨b, o, none⟩) xs.length cap] 24)) 47 (nc x' ⟨Av, cv, Al, cl, Af, cf⟩) (w.heap.size + 1) (by simp)
  have S := two_below w (.cells #[.slice (some ⟨b, o, none⟩) xs.length cap] 24) (.cells (nc x' ⟨Av, cv, Al, cl, Af, cf⟩) 47)
  obtain ⟨w2, hw2⟩ : ∃ w2, (w.alloc (.cells #[.slice (some ⟨b, o, none⟩) xs.length cap] 24)).alloc (.cells (nc x' ⟨Av, cv, Al, cl, Af, cf⟩) 47) = w2 := ⟨_, rfl⟩
  have b1' := b1.alloc (.cells (nc x' ⟨Av, cv, Al, cl, Af, cf⟩) 47)
  rw [hw2] at b1' b2 S
  have hmb : (xs.length : Int) ≤ 1099511627776 := by omega
  have hib : (i : Int) < xs.length := by omega
  have hsz := ho.lf
  have hnl := length_namedN x'
  have C1 := fun (hk : 0 ≤ x'.k) (hk' : x'.k ≤ 10) W (hW : Below w.heap.size w W) => ref_form x' ⟨Av, cv, Al, cl, Af, cf⟩ n W (Nat.le_trans hn hW.size) (hnd.keep (hW.mono hn)) ho.v (by omega) (by omega) hk hk'
  have C4 := fun W (hW : Below w.heap.size w W) => ref_Named x' ⟨Av, cv, Al, cl, Af, cf⟩ n W (Nat.le_trans hn hW.size) (hnd.keep (hW.mono hn)) ho.lf
  have HF : Hid (∀ W, Below w.heap.size w W → RdF W n Af x'.f) := Lib.hid fun W hW => (hnd.keep (hW.mono hn)).f
  have HOK := Lib.hid ho.f
  have HW : Hid (wrongN chI x' i xs.length = if x'.k < 0 ∨ 10 < x'.k then 18 else if formN chI x' = false then 11 else if rangedN x' = false then 15 else if keysN x'.f ≠ 0 then keysN x'.f else if (namedN x').any (nameB i xs.length) then 13 else 0) := Lib.hid rfl
  have HRG : Hid (rangedN x' = if x'.k = 2 ∨ x'.k = 3 ∨ x'.k = 6 then decide (0 ≤ x'.lo) && decide (x'.lo ≤ x'.hi) else if x'.k = 1 then decide (x'.lo ≤ x'.hi) else if x'.k = 9 then decide (0 ≤ x'.lo) else true) := Lib.hid rfl
  obtain ⟨q, hq⟩ : ∃ q, x'.f.length = q := ⟨_, rfl⟩
  have HQ := Lib.hid hq
  have hqb : (q : Int) ≤ 1099511627776 := by omega
  have HLN : Hid ((namedN x').length ≤ 1099511627776) := Lib.hid (by omega)
  have HCL : Hid (∀ W, Below w2.heap.size w2 W → W.cell? ⟨w.heap.size, 0, none⟩ = some (.slice (some ⟨b, o, none⟩) xs.length cap) ∧ Blk W (w.heap.size + 1) 47 #[.int .i64 x'.k, .int .i64 x'.lo, .int .i64 x'.hi, .int .i64 x'.v.k, .int .u64 x'.v.n, .string x'.v.s, .slice Av x'.v.l.length cv, .slice Al x'.l.length cl, .slice Af q cf]) := Lib.hid fun W hb => ⟨sblk (b1'.on hb), by rw [← hq]; exact b2.on hb⟩
  have HS := Lib.hid S
  have HUP : Hid (∀ W, Below w2.heap.size w2 W → Below w.heap.size w W) := Lib.hid fun W hW => S.trans (hW.mono S.size)
  obtain ⟨s0, sb⟩ := HCL.out w2 (Below.refl _ _)
  obtain ⟨p0, p1, p2, p3, p4, p5, p6, p7, p8⟩ := nblk sb
  have hal := fun {o' : Nat} {v : Value} (h : w.cell? ⟨b, o', none⟩ = some v) => ((below_alloc w (.cells #[.slice (some ⟨b, o, none⟩) xs.length cap] 24)).cell (p := ⟨b, o', none⟩) hbw).trans h
  replace c0 := hal c0
  replace c1 := hal c1
  replace c2 := hal c2
  replace c3 := hal c3
  replace c4 := hal c4
  replace c5 := hal c5
  replace c6 := hal c6
  replace c7 := hal c7
  replace c8 := hal c8
  clear hal
  unfold nc at hw2
  simp only at hw2 c6 c7 c8
  rw [hq] at hw2 c8
  have HW2 := Lib.hid hw2
  unfold vS
  generalize wrongN chI x' i xs.length = res at *
  generalize formN chI x' = r1 at *
  generalize rangedN x' = r2 at *
  generalize hK3 : keysN x'.f = r3 at *
  generalize hL : namedN x' = L at *
  clear hL b1 b1' b2 sb S hn hx hX X mX hnd ho hsz hnl hq hi hbn hbw hm
  simp only [vN] at C1 C4
  rw [HQ.out] at C1 C4
  have HC1 := Lib.hid C1
  have HC4 := Lib.hid C4
  clear C1 C4
  generalize x'.f = fs at *
  generalize xs.length = m at *
  generalize x'.k = kk at *
  generalize x'.lo = lo at *
  generalize x'.hi = hi at *
  generalize x'.v.k = vk at *
  generalize x'.v.n = vn at *
  generalize x'.v.s = vs at *
  generalize x'.v.l.length = vl at *
  generalize x'.l.length = ll at *
  have HKK := Lib.hid hkk
  clear hkk
  go_enter Tryz.func24, Tryz.ntmps24
  by_cases hk : kk < 0 ∨ 10 < kk
  · have HR : Hid (res = 18) := Lib.hid (by rw [HW.out, if_pos hk])
    go_wp2_with fail
    all_goals first
      | (go_ret; exact ⟨by rw [HR.out]; rfl, HS.out⟩)
      | (exfalso; omega)
  have hk1 : ¬ kk < 0 := fun h => hk (.inl h)
  have hk2 : ¬ 10 < kk := fun h => hk (.inr h)
  have HC1' := Lib.hid (HC1.out (by omega) (by omega))
  have HW' := Lib.hid ((HW.out).trans (if_neg hk))
  clear hk HC1 HW
  have HK3 : Hid (keysN fs = r3) := Lib.hid hK3
  clear hK3
  cases r1 with
  | false =>
    have HR : Hid (res = 11) := Lib.hid (by rw [HW'.out]; rfl)
    go_wp2_with (first
      | (go_at_call 37; refine (HC1'.out _ HS.out).mono ?_; rintro e w3 ⟨rfl, hb3⟩; have HB3 := Lib.hid hb3; clear hb3)
      | fail)
    go_ret
    exact ⟨by rw [HR.out]; rfl, HUP.out _ HB3.out⟩
  | true =>
  have hkk := HKK.out
  clear HKK
  subst hkk
  cases r2 with
  | false =>
    have HR : Hid (res = 15) := Lib.hid (by rw [HW'.out]; rfl)
    have g1 : hi < lo ∨ lo < 0 := by have := HRG.out; simp at this; omega
    go_wp2_with (first
          | (go_at_call 37; refine (HC1'.out _ HS.out).mono ?_; rintro e w3 ⟨rfl, hb3⟩; obtain ⟨s0', sb⟩ := HCL.out w3 hb3; obtain ⟨u0, u1, u2, u3, u4, u5, u6, u7, u8⟩ := nblk sb; have HB3 := Lib.hid hb3; clear hb3 sb)
          | fail)
    all_goals first
      | (go_ret; exact ⟨by rw [HR.out]; rfl, HUP.out _ HB3.out⟩)
      | (exfalso; omega)
  | true =>
  have g1 : ¬ hi < lo := by have := HRG.out; simp at this; omega
  have g2 : ¬ lo < 0 := by have := HRG.out; simp at this; omega
  clear HRG
  have HW'' : Hid (res = if r3 ≠ 0 then r3 else if L.any (nameB i m) then 13 else 0) := Lib.hid (by rw [HW'.out]; rfl)
  go_wp2_with (first
        | (go_at_call 37; refine (HC1'.out _ HS.out).mono ?_; rintro e w3 ⟨rfl, hb3⟩; obtain ⟨s0', sb⟩ := HCL.out w3 hb3; obtain ⟨u0, u1, u2, u3, u4, u5, u6, u7, u8⟩ := nblk sb; have HB3 := Lib.hid hb3; clear hb3 sb)
        | fail)
  clear p0 p1 p2 p3 p4 p5 p6 p7 p8 u0 u1 u2 u3 u4 u5 u6 u7 u8 s0 s0' hw2 c0 c1 c2 c3 c4 c5 c6 c7 c8
  go_loopw [6] (fun v wr => ∃ k : Nat, k ≤ q ∧ v = .int .i64 (k : Int) ∧ Hid (Below w2.heap.size w2 wr) ∧ Hid (∀ j, j < k → keyE fs j = 0)) (fun v _ => q - (intOf v).toNat)
  case atStart => exact ⟨0, by omega, rfl, HB3, Lib.hid fun j hj => absurd hj (by omega)⟩
  case round =>
    obtain ⟨k, hk, rfl, HBr, HE⟩ := hrel
    obtain ⟨a0, ab⟩ := HCL.out _ HBr.out
    obtain ⟨-, -, -, -, -, -, -, -, a8⟩ := nblk ab
    clear ab
    by_cases hlt : k < q
    · obtain ⟨bf, of, fd, rfl, -, -, X, d0, -, -⟩ := (HF.out _ (HUP.out _ HBr.out)).get (i := k) (by rw [HQ.out]; exact hlt)
      have hsz := HOK.out fd (List.mem_of_getElem? X)
      have HU := Lib.hid (fun W => ref_First fd.key (Nat.le_trans hsz (by decide)) W)
      have HX := Lib.hid X
      generalize uat uq0 (sbytes fd.key) 0 = at0 at *
      by_cases h1 : uok uq0 (sbytes fd.key) = true
      · rw [h1] at HU
        by_cases h2 : 1021 < fd.key.size
        · have HR : Hid (r3 = 4) := Lib.hid (HK3.out.symm.trans (keys_len HX.out HE.out h1 h2))
          have HF' : Hid (res = 4) := Lib.hid (by rw [HW''.out, HR.out]; rfl)
          have hz : (1021 : Int) < (fd.key.size : Int) := by omega
          clear h1 h2 X hsz
          go_wp2_with (first
            | (go_at_call 38; refine (HU.out _).mono ?_; rintro e w' ⟨rfl, rfl⟩)
            | fail)
          go_ret
          exact ⟨by rw [HF'.out]; rfl, HUP.out _ HBr.out⟩
        · have hz : (fd.key.size : Int) ≤ 1021 := by omega
          have HH := Lib.hid (And.intro h1 h2)
          clear h1 h2 X hsz
          go_wp2_with (first
            | (go_at_call 38; refine (HU.out _).mono ?_; rintro e w' ⟨rfl, rfl⟩)
            | fail)
          clear a0 a8 d0
          obtain ⟨wo, rfl⟩ : ∃ wo, wo = wr := ⟨_, rfl⟩
          go_loopw [9] (fun v wr => ∃ j : Nat, j ≤ k ∧ v = .int .i64 (j : Int) ∧ Hid (Below w2.heap.size w2 wr) ∧ Hid (∀ t y, t < j → fs[t]? = some y → y.key ≠ fd.key)) (fun v _ => k - (intOf v).toNat)
          case atStart => exact ⟨0, by omega, rfl, HBr, Lib.hid fun t y ht => absurd ht (by omega)⟩
          case round =>
            obtain ⟨j, hj, rfl, HBj, HEj⟩ := hrel
            obtain ⟨a0, ab⟩ := HCL.out _ HBj.out
            obtain ⟨-, -, -, -, -, -, -, -, a8⟩ := nblk ab
            clear ab
            by_cases hjk : j < k
            · obtain ⟨bf', of', fd', e1, -, -, Y, d0, -, -⟩ := (HF.out _ (HUP.out _ HBj.out)).get (i := j) (by rw [HQ.out]; omega)
              obtain ⟨bf2, of2, fd2, e2, -, -, Z, d1, -, -⟩ := (HF.out _ (HUP.out _ HBj.out)).get (i := k) (by rw [HQ.out]; omega)
              injection e1 with e1
              injection e1 with e11 e12 _
              subst e11 e12
              injection e2 with e2
              injection e2 with e21 e22 _
              subst e21 e22
              obtain rfl : fd2 = fd := by have := HX.out; rw [Z] at this; injection this
              have hjq : j < q := by omega
              have HY := Lib.hid Y
              clear Y Z
              by_cases e : fd'.key = fd2.key
              · have HR : Hid (r3 = 14) := Lib.hid (HK3.out.symm.trans (keys_twice HX.out HE.out HH.out.1 HH.out.2 (mem_keys hjk HY.out e)))
                have HF' : Hid (res = 14) := Lib.hid (by rw [HW''.out, HR.out]; rfl)
                rw [e] at d0
                clear e
                go_wp2_with fail
                go_quiet (fail)
                have HQ2 := Lib.hid (below_drewN (Below.refl wr.heap.size wr) nq)
                generalize wr.drewN nq = w4 at *
                go_wp2_with fail
                go_ret
                exact ⟨by rw [HF'.out]; rfl, HUP.out _ (HBj.out.trans (HQ2.out.mono HBj.out.size))⟩
              · have e1 : (fd'.key.toList == fd2.key.toList) = false := beq_eq_false_iff_ne.2 fun h => e (text_eq h)
                have HNE := Lib.hid e
                clear e
                go_wp2_with fail
                go_quiet (fail)
                have HQ2 := Lib.hid (below_drewN (Below.refl wr.heap.size wr) nq)
                generalize wr.drewN nq = w4 at *
                go_wp2_with fail
                go_roundw
                case rel => exact ⟨j + 1, by omega, by simp, Lib.hid (HBj.out.trans (HQ2.out.mono HBj.out.size)), Lib.hid fun t y ht hy => by
                  by_cases et : t = j
                  · subst et
                    rw [HY.out] at hy
                    injection hy with hy
                    rw [← hy]
                    exact HNE.out
                  · exact HEj.out t y (by omega) hy⟩
                case measure => simp [intOf]; omega
            · obtain rfl : j = k := by omega
              have HNX : Hid (keyE fs j = 0) := Lib.hid (keyE_ok HX.out HH.out.1 HH.out.2 (not_mem_keys HEj.out))
              go_wp2_with fail
              go_roundw
              case rel => exact ⟨j + 1, by omega, by simp, HBj, Lib.hid fun t ht => by
                by_cases e : t = j
                · rw [e]; exact HNX.out
                · exact HE.out t (by omega)⟩
              case measure => simp [intOf]; omega
      · have h1' : uok uq0 (sbytes fd.key) = false := by simpa using h1
        rw [h1'] at HU
        have HR : Hid (r3 = 6) := Lib.hid (HK3.out.symm.trans (keys_utf HX.out HE.out h1'))
        have HF' : Hid (res = 6) := Lib.hid (by rw [HW''.out, HR.out]; rfl)
        clear h1 h1' X hsz
        go_wp2_with (first
          | (go_at_call 38; refine (HU.out _).mono ?_; rintro e w' ⟨rfl, rfl⟩)
          | fail)
        go_ret
        exact ⟨by rw [HF'.out]; rfl, HUP.out _ HBr.out⟩
    · obtain rfl : k = q := by omega
      have HR : Hid (r3 = 0) := Lib.hid (HK3.out.symm.trans (keys_none (by rw [HQ.out]; exact HE.out)))
      have HRES : Hid (res = if L.any (nameB i m) then 13 else 0) := Lib.hid (by rw [HW''.out, HR.out]; rfl)
      obtain ⟨-, ab⟩ := HCL.out _ HBr.out
      obtain ⟨y0, y1, y2, y3, y4, y5, y6, y7, -⟩ := nblk ab
      go_wp2_with (first
        | (go_at_call 39; refine (HC4.out _ (HUP.out _ HBr.out)).mono ?_; rintro e w5 ⟨⟨v, rfl, hO⟩, hb5⟩; obtain ⟨A', cap', rfl, -, -, -, -, hrd⟩ := hO.form; have HRD := Lib.hid hrd; have HB5 := Lib.hid (HBr.out.trans (hb5.mono HBr.out.size)); clear hb5 hO hrd)
        | fail)
      clear a0 a8 y0 y1 y2 y3 y4 y5 y6 y7 ab hlt hk
      obtain ⟨z, hz⟩ : ∃ z, L.length = z := ⟨_, rfl⟩
      have HZ := Lib.hid hz
      have hzb : (z : Int) ≤ 1099511627776 := by have := HLN.out; omega
      rw [hz]
      clear hz
      obtain ⟨wo, rfl⟩ : ∃ wo, wo = wr := ⟨_, rfl⟩
      go_loopw [11] (fun v wr => ∃ j : Nat, j ≤ z ∧ v = .int .i64 (j : Int) ∧ Hid (Below w5.heap.size w5 wr) ∧ Hid (∀ t, t < j → nameB i m (L.getD t 0) = false)) (fun v _ => z - (intOf v).toNat)
      case atStart => exact ⟨0, by omega, rfl, Lib.hid (Below.refl _ _), Lib.hid fun t ht => absurd ht (by omega)⟩
      case round =>
        obtain ⟨j, hj, rfl, HBj, HEj⟩ := hrel
        obtain ⟨a0, -⟩ := HCL.out _ (HB5.out.trans (HBj.out.mono HB5.out.size))
        by_cases hjk : j < z
        · obtain ⟨bb, oo, rfl, -, d0⟩ := (HRD.out.on HBj.out).get (i := j) (by rw [HZ.out]; exact hjk)
          obtain ⟨t, ht⟩ : ∃ t, L.getD j 0 = t := ⟨_, rfl⟩
          rw [ht] at d0
          have HT := Lib.hid ht
          clear ht
          by_cases h1 : t ≤ (i : Int)
          · have HF' : Hid (res = 13) := Lib.hid (by rw [HRES.out, if_pos (any_some_of (j := j) (by rw [HZ.out]; exact hjk) (by rw [HT.out]; simp [nameB, h1]))])
            go_wp2_with fail
            go_quiet (fail)
            have HQ2 := Lib.hid (below_drewN (Below.refl wr.heap.size wr) nq)
            generalize wr.drewN nq = w6 at *
            go_wp2_with fail
            go_ret
            exact ⟨by rw [HF'.out]; rfl, HUP.out _ (HB5.out.trans ((HBj.out.trans (HQ2.out.mono HBj.out.size)).mono HB5.out.size))⟩
          · by_cases h2 : (m : Int) ≤ t
            · have HF' : Hid (res = 13) := Lib.hid (by rw [HRES.out, if_pos (any_some_of (j := j) (by rw [HZ.out]; exact hjk) (by rw [HT.out]; simp [nameB, h2]))])
              go_wp2_with fail
              go_quiet (fail)
              have HQ2 := Lib.hid (below_drewN (Below.refl wr.heap.size wr) nq)
              generalize wr.drewN nq = w6 at *
              go_wp2_with fail
              go_ret
              exact ⟨by rw [HF'.out]; rfl, HUP.out _ (HB5.out.trans ((HBj.out.trans (HQ2.out.mono HBj.out.size)).mono HB5.out.size))⟩
            · have HN : Hid (nameB i m (L.getD j 0) = false) := Lib.hid (by rw [HT.out]; simp [nameB]; omega)
              go_wp2_with fail
              go_quiet (fail)
              have HQ2 := Lib.hid (below_drewN (Below.refl wr.heap.size wr) nq)
              generalize wr.drewN nq = w6 at *
              go_wp2_with fail
              go_roundw
              case rel => exact ⟨j + 1, by omega, by simp, Lib.hid (HBj.out.trans (HQ2.out.mono HBj.out.size)), Lib.hid fun t ht => by
                by_cases e : t = j
                · rw [e]; exact HN.out
                · exact HEj.out t (by omega)⟩
              case measure => simp [intOf]; omega
        · obtain rfl : j = z := by omega
          have HF' : Hid (res = 0) := Lib.hid (by rw [HRES.out, any_none_of (by rw [HZ.out]; exact HEj.out)]; rfl)
          go_wp2_with fail
          go_ret
          exact ⟨by rw [HF'.out]; rfl, HUP.out _ (HB5.out.trans (HBj.out.mono HB5.out.size))⟩
end Go.Proofs.YtjelgoeamaejmaaGreat
