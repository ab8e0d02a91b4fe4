/-
  PROVED: the law PlainPrefix returns true for every slice of bytes and all limits, and leaves its arguments as they were (Rows.PlainPrefixSaid). Conditions: none beside the row's own.
-/
import Derived.Test.YtchhbcmkhbfpoaaKAW
import Derived.Test.YtchhbcmkhbfpoaaKBM
import Derived.Test.YtchhbcmkhbfpoaaKAO
import Derived.Test.YtchhbcmkhbfpoaaKAT
import Derived.Lib.QuietBelow
namespace Go.Proofs.Ytchhbcmkhbfpoaa.plainPrefix
open Go.ChangeShapes Go.WideShapes Go.ChangeAt Go.RowKit Go.Sort

theorem rd_take {w : World} {B : Nat} {k : IntKind} {A : Option Addr} {zs : List Int} (h : Rd w B k A zs) (n : Nat) : Rd w B k A (zs.take n) := fun hn => by
  have hz : 0 < zs.length := by rw [List.length_take] at hn; omega
  obtain ⟨b, o, hA, hb, hc⟩ := h hz
  refine ⟨b, o, hA, hb, fun i hi => ?_⟩
  rw [List.length_take] at hi
  rw [hc i (by omega), getD_take zs n i (by omega)]
theorem run_head64 {P : Program} {t elem : TypeId} (hu : P.underlying t = some (.slice elem)) (hs : (P.info? elem).map (·.size) = some 1) (w : World) (A : Option Addr) (len cap n : Nat) (ni : Int) (hni : ni = n) (hn : n ≤ cap) :
    (Instr.sliceAt t (.slice A len cap) none (some (.int .i64 ni)) none).run P w = .ok (.slice (cutA A 0 cap) n cap) w := by
  subst hni
  have hz : ∀ w, (sizeOf elem).run P w = .ok 1 w := fun w => by
    cases hq : P.info? elem with
    | none => simp [hq] at hs
    | some i =>
      have : i.size = 1 := by simpa [hq] using hs
      simp [sizeOf, typeInfo, hq, this]
  have he : P.elem t = elem := by simp [Program.elem, hu]
  rw [run_sliceAt_slice w t _ _ _ _ (by rw [he]; exact hu), run_slice_h w t A len cap (by rw [he]; exact hu) .i64 n (by omega) (by omega), he, hz]
  simp [sliced, cutA]
def x0 : It := .mk 0 0 ⟨#[]⟩ []
set_option maxHeartbeats 4000000 in
set_option maxRecDepth 4000 in
theorem walk (w : World) (A0 : Option Addr) (cap0 : Nat) (L : List Int) (hcap0 : L.length ≤ cap0) (hr0 : Rd w w.heap.size .u8 A0 L) (hz0 : ByteL L) (d k s : Int) :
    Calls Try.prog 4 #[.slice A0 L.length cap0, vL d k s] w fun e w' => e = .returned (.bool true) ∧ Below w.heap.size w w' := by
  obtain ⟨w1, hw1, b1, S1⟩ := iblk1 w 24 #[.int .i64 d, .int .i64 k, .int .i64 s]
  obtain ⟨p0, p1, p2⟩ := lblk b1
  have HA := Lib.hid (plain_awake w1)
  have HS := Lib.hid S1
  have HL := Lib.hid (fun v (hb : Below w1.heap.size w1 v) => lblk (b1.on hb))
  have HRi := Lib.hid (fun v => ref_Right d k s v)
  by_cases hbig : (200 : Int) < (L.length : Int)
  · unfold vL
    clear hr0 hz0 S1 b1 HRi HL
    go_enter Try.func4, Try.ntmps4
    go_wp2_with fail
    refine HA.out.mono ?_
    rintro e w2 ⟨rfl, hb2⟩
    have HB2 := Lib.hid (HS.out.trans (hb2.mono HS.out.size))
    clear hb2 HA
    go_wp2_with fail
    go_ret
    exact ⟨rfl, HB2.out⟩
  cases hrl : rightL d k s with
  | false =>
    rw [hrl] at HRi
    unfold vL at HRi ⊢
    clear hr0 hz0 S1 b1 hrl
    go_enter Try.func4, Try.ntmps4
    go_wp2_with fail
    refine HA.out.mono ?_
    rintro e w2 ⟨rfl, hb2⟩
    obtain ⟨l0, l1, l2⟩ := HL.out w2 hb2
    have HB2 := Lib.hid (HS.out.trans (hb2.mono HS.out.size))
    clear hb2 HA p0 p1 p2
    go_wp2_with fail
    refine (HRi.out _).mono ?_
    rintro e w3 ⟨rfl, hb3⟩
    have HB3 := Lib.hid (HB2.out.trans (hb3.mono HB2.out.size))
    clear hb3 HB2 HRi HL
    go_wp2_with fail
    go_ret
    exact ⟨rfl, HB3.out⟩
  | true =>
    obtain ⟨h1, h2, h3, h4, h5, h6⟩ := rightL_true.1 hrl
    obtain ⟨D, rfl⟩ : ∃ D : Nat, d = D := ⟨d.toNat, by omega⟩
    obtain ⟨K, rfl⟩ : ∃ K : Nat, k = K := ⟨k.toNat, by omega⟩
    rw [hrl] at HRi
    have hl2 : L.length ≤ 200 := by omega
    have hup : ∀ v, Below w1.heap.size w1 v → Rd v v.heap.size .u8 A0 L := fun v hb => (hr0.below (S1.trans (hb.mono S1.size))).more (by have := S1.size; have := hb.size; omega)
    have HP := Lib.hid (fun v (hb : Below w1.heap.size w1 v) => plain_Prefix v A0 cap0 L D K s (hup v hb) hz0 (by omega) hcap0 (by omega) (by omega) (by omega) (by omega) h5 h6)
    obtain ⟨A1, hA1⟩ : ∃ A1, cutA A0 0 cap0 = A1 := ⟨_, rfl⟩
    have hup1 : ∀ v, Below w1.heap.size w1 v → Rd v v.heap.size .u8 A1 L := fun v hb => by
      have := (hup v hb).cut 0 cap0 hcap0
      rwa [List.drop_zero, hA1] at this
    have HSL : Hid (∀ (j : Nat) v, j ≤ L.length → (Instr.sliceAt 22 (.slice A0 L.length cap0) none (some (.int .i64 (j : Int))) none).run Try.prog v = .ok (.slice A1 j cap0) v) := fun j v hj => by
      rw [run_head64 (P := Try.prog) (t := 22) (elem := 5) (by kernel_rfl) (by kernel_rfl) v A0 L.length cap0 j j rfl (by omega), hA1]
    have hbt : ∀ j, ByteL (L.take j) := fun j c hc => hz0 c (List.mem_of_mem_take hc)
    have htl : ∀ j, j ≤ L.length → (L.take j).length = j := fun j hj => by rw [List.length_take]; omega
    have HV : Hid (∀ (j : Nat) v, j ≤ L.length → Below w1.heap.size w1 v → Calls Try.prog 18 #[.slice A1 j cap0, .agg #[.int .i64 D, .int .i64 K, .int .i64 s]] v fun e w' => e = .returned (.tuple #[.int .i64 (wv D K s (L.take j)).1, .int .i64 (wv D K s (L.take j)).2]) ∧ Below v.heap.size v w') := fun j v hj hb => by
      have := ref_Verdict v A1 cap0 (L.take j) D K s (rd_take (hup1 v hb) j) (hbt j) (by rw [htl j hj]; omega) (by rw [htl j hj]; omega) (by omega) (by omega) h5
      rw [htl j hj] at this
      exact this
    have HV0 : Hid (∀ v, Below w1.heap.size w1 v → Calls Try.prog 18 #[.slice A0 L.length cap0, .agg #[.int .i64 D, .int .i64 K, .int .i64 s]] v fun e w' => e = .returned (.tuple #[.int .i64 (wv D K s L).1, .int .i64 (wv D K s L).2]) ∧ Below v.heap.size v w') := fun v hb =>
      ref_Verdict v A0 cap0 L D K s (hup v hb) hz0 (by omega) hcap0 (by omega) (by omega) h5
    have HI : Hid (∀ (j : Nat) (x : It) v, j ≤ L.length → prs (L.take j) (j + 1) 0 = some (x, j) → Below w1.heap.size w1 v → x.count ≤ 300 ∧ Calls Try.prog 19 #[.slice A1 j cap0, .int .i64 0] v fun r w' => ∃ Ay cy, r = .returned (.tuple #[.agg #[.int .i64 x.k, .int .u64 x.n, .string x.s, .slice Ay x.l.length cy], .int .i64 (j : Int)]) ∧ AtS w' (fun b => v.heap.size ≤ b) x Ay cy ∧ Below v.heap.size v w') := fun j x v hj hx hb => by
      have hc := (prs_bd (hbt j) (j + 1) 0 x j hx).2.2
      have := ref_Item15 (L.take j) (hbt j) (by rw [htl j hj]; omega) (j + 1) 0 x j v A1 cap0 hx (rd_take (hup1 v hb) j) (by rw [htl j hj]; omega)
      rw [htl j hj] at this
      exact ⟨by omega, this⟩
    have HHL : Hid (Unit → L.length ≤ 200) := fun _ => hl2
    unfold vL at HRi HP ⊢
    clear hr0 hz0 S1 b1 hrl h1 h2 h3 h4 h5 h6 hup hup1 hA1 hbt htl hcap0
    generalize hN : (L.length : Int) = N at *
    have HN2 := Lib.hid hN
    go_enter Try.func4, Try.ntmps4
    go_wp2_with fail
    refine HA.out.mono ?_
    rintro e w2 ⟨rfl, hb2⟩
    obtain ⟨l0, l1, l2⟩ := HL.out w2 hb2
    have HB2 := Lib.hid hb2
    clear hb2 HA p0 p1 p2
    go_wp2_with fail
    refine (HRi.out _).mono ?_
    rintro e w3 ⟨rfl, hb3⟩
    obtain ⟨m0, m1, m2⟩ := HL.out w3 (HB2.out.trans (hb3.mono HB2.out.size))
    have HB3 := Lib.hid (HB2.out.trans (hb3.mono HB2.out.size))
    have HPc := Lib.hid (HP.out w3 HB3.out)
    clear hb3 HB2 HRi HP l0 l1 l2
    go_wp2_with fail
    refine HPc.out.mono ?_
    rintro e w4 ⟨hcase, hb4⟩
    have HB4 := Lib.hid (HB3.out.trans (hb4.mono HB3.out.size))
    clear hb4 HPc m0 m1 m2
    rcases hcase with ⟨k, x, Ax, cx, hk1, hkL, hNo, hwk, hxk, rfl, hat⟩ | ⟨hNo, rfl⟩
    · unfold vI
      have HAT := Lib.hid hat
      have HNO := Lib.hid hNo
      have HWK := Lib.hid hwk
      have HXK := Lib.hid hxk
      have hk2 : (1 : Int) ≤ (k : Int) := by omega
      have hk3 : (k : Int) ≤ N := by rw [← hN]; omega
      have hn200 : N ≤ 200 := by rw [← hN]; omega
      have HKL := Lib.hid (fun _ : Unit => hkL)
      clear hat hNo hwk hxk hk1 hkL hl2
      have b5 := (Blk.fresh w4 56 #[.int .i64 x.k, .int .u64 x.n, .string x.s, .slice Ax x.l.length cx]).alloc (.cells #[.int .i64 0, .int .i64 0] 51)
      have b6 := Blk.fresh (w4.alloc (.cells #[.int .i64 x.k, .int .u64 x.n, .string x.s, .slice Ax x.l.length cx] 56)) 51 #[.int .i64 0, .int .i64 0]
      rw [World.size_alloc] at b6
      have S5 := (below_alloc w4 (.cells #[.int .i64 x.k, .int .u64 x.n, .string x.s, .slice Ax x.l.length cx] 56)).alloc (by simp) (.cells #[.int .i64 0, .int .i64 0] 51)
      have HB15 := Lib.hid (HB4.out.trans (S5.mono HB4.out.size))
      have HBI := Lib.hid b5
      have HBV := Lib.hid b6
      have HS45 := Lib.hid S5
      clear b5 b6 S5
      have HZ := vd_zero
      unfold vcells at HZ
      dsimp only at HZ
      have HZI := item_zero
      go_wp2_with fail

      generalize (w4.alloc (.cells #[.int .i64 x.k, .int .u64 x.n, .string x.s, .slice Ax x.l.length cx] 56)).alloc (.cells #[.int .i64 0, .int .i64 0] 51) = w5 at *
      go_loopw [8] (fun i wr => ∃ j : Nat, (1 : Int) ≤ (j : Int) ∧ (j : Int) ≤ (k : Int) ∧ i = .int .i64 j ∧ Hid (Below w5.heap.size w5 wr)) (fun i _ => L.length + 1 - (intOf i).toNat)
      case atStart => exact ⟨1, by omega, by omega, rfl, Below.refl _ _⟩
      case round =>
        obtain ⟨j, hj1, hj2, rfl, HB5⟩ := hrel
        have hjN : (j : Int) ≤ N := by omega
        have HBW := Lib.hid (HB15.out.trans (HB5.out.mono HB15.out.size))
        have hjL : j ≤ L.length := by have := HN2.out; omega
        have hsj := fun v => HSL.out j v hjL
        have HMM : Hid (Unit → L.length + 1 - (j + 1) < L.length + 1 - j) := fun _ => by omega
        by_cases hjk : (j : Int) < (k : Int)
        · have hej := HNO.out j (by omega) (by omega)
          have HVj := Lib.hid (fun v hb => HV.out j v hjL hb)
          obtain ⟨ej, qj, hv⟩ : ∃ ej qj, wv D K s (L.take j) = (ej, qj) := ⟨_, _, rfl⟩
          rw [hv] at hej HVj
          dsimp only at hej HVj
          clear hv hjL HSL HV HV0 HI HNO HWK HXK HAT HBI HBV HS45 HB15 HZ HZI
          obtain ⟨l0, l1, l2⟩ := HL.out wr HBW.out
          have k0 := cell_regrown l0
          have k1 := cell_regrown l1
          have k2 := cell_regrown l2
          have K1 := Lib.hid (fun dq os => Calls.regrown_of (HVj.out (grow (redrawn wr dq) os) (HBW.out.trans ((below_regrown wr dq os).mono HBW.out.size))))
          go_wp2_with fail
          refine wp_region_quiet_below (by kernel_rfl) (by kernel_rfl) ?_
          repeat (quiet_step (exact K1.out _ _))
          refine wpQuiet_nil ?_
          intro _ hw'
          obtain ⟨⟨dq, osq⟩, hw''⟩ := hw'
          subst hw''
          have HB6 := Lib.hid (HB5.out.trans ((below_regrown wr dq osq).mono HB5.out.size))
          clear k0 k1 k2 K1 l0 l1 l2 HVj HBW HB5
          generalize grow (redrawn wr dq) osq = w6 at *
          go_wp2_with fail
          go_roundw
          case rel => exact ⟨j + 1, by omega, by omega, by go_num, HB6⟩
          case measure => simp [intOf]; have := HMM.out (); omega
        · obtain rfl : j = k := by omega
          have HVj : Hid (∀ v, Below w1.heap.size w1 v → Calls Try.prog 18 #[.slice A1 j cap0, .agg #[.int .i64 D, .int .i64 K, .int .i64 s]] v fun e w' => ∃ qj, e = .returned (.tuple #[.int .i64 0, .int .i64 qj]) ∧ Below v.heap.size v w') := fun v hb => by
            refine (HV.out j v hjL hb).mono ?_
            rintro e w' ⟨rfl, hb'⟩
            exact ⟨_, by rw [HWK.out], hb'⟩
          obtain ⟨qj, hqj⟩ : ∃ qj, (wv D K s (L.take j)).2 = qj := ⟨_, rfl⟩
          replace HVj : Hid (∀ v, Below w1.heap.size w1 v → Calls Try.prog 18 #[.slice A1 j cap0, .agg #[.int .i64 D, .int .i64 K, .int .i64 s]] v fun e w' => e = .returned (.tuple #[.int .i64 0, .int .i64 qj]) ∧ Below v.heap.size v w') := fun v hb => by
            have := HV.out j v hjL hb
            rwa [HWK.out, hqj] at this
          have HIt := Lib.hid (fun v hb => HI.out j x v hjL HXK.out hb)
          clear hqj hjL HSL HV HV0 HI HNO HWK HXK HMM
          obtain ⟨l0, l1, l2⟩ := HL.out wr HBW.out
          have k0 := cell_regrown l0
          have k1 := cell_regrown l1
          have k2 := cell_regrown l2
          have K1 := Lib.hid (fun dq os => Calls.regrown_of (HVj.out (grow (redrawn wr dq) os) (HBW.out.trans ((below_regrown wr dq os).mono HBW.out.size))))
          go_wp2_with fail
          refine wp_region_quiet_below (by kernel_rfl) (by kernel_rfl) ?_
          repeat (quiet_step (exact K1.out _ _))
          refine wpQuiet_nil ?_
          intro _ hw'
          obtain ⟨⟨dq, osq⟩, hw''⟩ := hw'
          subst hw''
          have HB6 := Lib.hid (HB5.out.trans ((below_regrown wr dq osq).mono HB5.out.size))
          clear k0 k1 k2 K1 l0 l1 l2 HVj HBW HB5
          generalize grow (redrawn wr dq) osq = w6 at *
          have HB16 := Lib.hid (HB15.out.trans (HB6.out.mono HB15.out.size))
          obtain ⟨hcnt, hcl⟩ := HIt.out w6 HB16.out
          have HCL := Lib.hid hcl
          have HCNT := Lib.hid (fun _ : Unit => hcnt)
          clear hcnt hcl HIt
          go_wp2_with fail
          refine HCL.out.mono ?_
          rintro e w7 ⟨Ay, cy, rfl, haty, hb7⟩
          have b8 : Blk (w7.alloc (.cells #[.int .i64 x.k, .int .u64 x.n, .string x.s, .slice Ay x.l.length cy] 56)) w7.heap.size 56 #[.int .i64 x.k, .int .u64 x.n, .string x.s, .slice Ay x.l.length cy] := Blk.fresh _ _ _
          have S8 := below_alloc w7 (.cells #[.int .i64 x.k, .int .u64 x.n, .string x.s, .slice Ay x.l.length cy] 56)
          obtain ⟨w8, hw8⟩ : ∃ w8, w7.alloc (.cells #[.int .i64 x.k, .int .u64 x.n, .string x.s, .slice Ay x.l.length cy] 56) = w8 := ⟨_, rfl⟩
          rw [hw8] at b8 S8
          have hb58 : Below w5.heap.size w5 w8 := (HB6.out.trans (hb7.mono HB6.out.size)).trans (S8.mono (Nat.le_trans HB6.out.size hb7.size))
          have hb48 : Below w4.heap.size w4 w8 := HS45.out.trans (hb58.mono HS45.out.size)
          have bI := HBI.out.on hb58
          have bV := HBV.out.on hb58
          have c0 := bI.cell 0
          have c1 := bI.cell 1
          have c2 := bI.cell 2
          have c3 := bI.cell 3
          have d0 := bV.cell 0
          have d1 := bV.cell 1
          have y0 := b8.cell 0
          have y1 := b8.cell 1
          have y2 := b8.cell 2
          have y3 := b8.cell 3
          simp only [List.getElem?_toArray, List.getElem?_cons_zero, List.getElem?_cons_succ] at c0 c1 c2 c3 d0 d1 y0 y1 y2 y3
          have HSm := Lib.hid (ref_Same x.count x x Ax Ay cx cy w8 (Nat.le_refl _) (by have := HCNT.out (); omega) (HAT.out.toV.on hb48) (haty.toV.on S8))
          rw [sameB_true.2 rfl] at HSm
          unfold vI at HSm
          have HB18 := Lib.hid (HS.out.trans ((HB15.out.trans (hb58.mono HB15.out.size)).mono HS.out.size))
          clear b8 S8 hb58 hb48 bI bV haty hb7 HCL HAT HBI HBV HS45 HB15 HB16 HB6 HCNT
          go_wp2_with fail
          refine HSm.out.mono ?_
          rintro e w9 ⟨rfl, hb9⟩
          have HB19 := Lib.hid (HB18.out.trans (hb9.mono HB18.out.size))
          clear hb9 HSm HB18 c0 c1 c2 c3 d0 d1 y0 y1 y2 y3
          go_wp2_with fail
          go_ret
          exact ⟨rfl, HB19.out⟩
    · have HNO := Lib.hid hNo
      have hn200 : N ≤ 200 := by rw [← hN]; omega
      obtain ⟨e0, q0, hv⟩ : ∃ e0 q0, wv D K s L = (e0, q0) := ⟨_, _, rfl⟩
      rw [hv] at HV0 ⊢
      dsimp only at HV0 ⊢
      clear hNo hl2 hv HI
      have b5 := (Blk.fresh w4 56 #[.int .i64 0, .int .u64 0, .string ⟨#[]⟩, .slice none 0 0]).alloc (.cells #[.int .i64 e0, .int .i64 q0] 51)
      have b6 := Blk.fresh (w4.alloc (.cells #[.int .i64 0, .int .u64 0, .string ⟨#[]⟩, .slice none 0 0] 56)) 51 #[.int .i64 e0, .int .i64 q0]
      rw [World.size_alloc] at b6
      have S5 := (below_alloc w4 (.cells #[.int .i64 0, .int .u64 0, .string ⟨#[]⟩, .slice none 0 0] 56)).alloc (by simp) (.cells #[.int .i64 e0, .int .i64 q0] 51)
      have HB15 := Lib.hid (HB4.out.trans (S5.mono HB4.out.size))
      have HBI := Lib.hid b5
      have HBV := Lib.hid b6
      have HS45 := Lib.hid S5
      clear b5 b6 S5
      have HZI := item_zero
      go_wp2_with fail

      generalize (w4.alloc (.cells #[.int .i64 0, .int .u64 0, .string ⟨#[]⟩, .slice none 0 0] 56)).alloc (.cells #[.int .i64 e0, .int .i64 q0] 51) = w5 at *
      go_loopw [8] (fun i wr => ∃ j : Nat, (1 : Int) ≤ (j : Int) ∧ (j : Int) ≤ N + 1 ∧ i = .int .i64 j ∧ Hid (Below w5.heap.size w5 wr)) (fun i _ => L.length + 1 - (intOf i).toNat)
      case atStart => exact ⟨1, by omega, by rw [← HN2.out]; omega, rfl, Below.refl _ _⟩
      case round =>
        obtain ⟨j, hj1, hj2, rfl, HB5⟩ := hrel
        have HBW := Lib.hid (HB15.out.trans (HB5.out.mono HB15.out.size))
        by_cases hjN : (j : Int) ≤ N
        · have hjL : j ≤ L.length := by have := HN2.out; omega
          have hsj := fun v => HSL.out j v hjL
          have HMM : Hid (Unit → L.length + 1 - (j + 1) < L.length + 1 - j) := fun _ => by omega
          have hej := HNO.out j (by omega) hjL
          have HVj := Lib.hid (fun v hb => HV.out j v hjL hb)
          obtain ⟨ej, qj, hv⟩ : ∃ ej qj, wv D K s (L.take j) = (ej, qj) := ⟨_, _, rfl⟩
          rw [hv] at hej HVj
          dsimp only at hej HVj
          clear hv hjL HSL HV HV0 HNO HBI HBV HS45 HB15 HZI
          obtain ⟨l0, l1, l2⟩ := HL.out wr HBW.out
          have k0 := cell_regrown l0
          have k1 := cell_regrown l1
          have k2 := cell_regrown l2
          have K1 := Lib.hid (fun dq os => Calls.regrown_of (HVj.out (grow (redrawn wr dq) os) (HBW.out.trans ((below_regrown wr dq os).mono HBW.out.size))))
          go_wp2_with fail
          refine wp_region_quiet_below (by kernel_rfl) (by kernel_rfl) ?_
          repeat (quiet_step (exact K1.out _ _))
          refine wpQuiet_nil ?_
          intro _ hw'
          obtain ⟨⟨dq, osq⟩, hw''⟩ := hw'
          subst hw''
          have HB6 := Lib.hid (HB5.out.trans ((below_regrown wr dq osq).mono HB5.out.size))
          clear k0 k1 k2 K1 l0 l1 l2 HVj HBW HB5
          generalize grow (redrawn wr dq) osq = w6 at *
          go_wp2_with fail
          go_roundw
          case rel => exact ⟨j + 1, by omega, by omega, by go_num, HB6⟩
          case measure => simp [intOf]; have := HMM.out (); omega
        · obtain ⟨l0, l1, l2⟩ := HL.out wr HBW.out
          have HVc := Lib.hid (HV0.out wr HBW.out)
          clear HSL HV HV0 HNO HB15
          go_wp2_with fail
          refine HVc.out.mono ?_
          rintro e w8 ⟨rfl, hb8⟩
          have hb58 : Below w5.heap.size w5 w8 := HB5.out.trans (hb8.mono HB5.out.size)
          have bI := HBI.out.on hb58
          have bV := HBV.out.on hb58
          have c0 := bI.cell 0
          have c1 := bI.cell 1
          have c2 := bI.cell 2
          have c3 := bI.cell 3
          have d0 := bV.cell 0
          have d1 := bV.cell 1
          simp only [List.getElem?_toArray, List.getElem?_cons_zero, List.getElem?_cons_succ] at c0 c1 c2 c3 d0 d1
          have hz : AtV w8 x0 none 0 := ⟨Nat.le_refl _, fun _ => rfl, AtL.nil _⟩
          have HSm := Lib.hid (ref_Same x0.count x0 x0 none none 0 0 w8 (Nat.le_refl _) (by decide) hz hz)
          rw [sameB_true.2 rfl] at HSm
          unfold vI x0 at HSm
          simp only [It.k, It.n, It.s, It.l, List.length_nil] at HSm
          have HB18 := Lib.hid (HS.out.trans ((HBW.out.trans (hb8.mono HBW.out.size)).mono HS.out.size))
          clear hb58 bI bV hb8 HVc HBI HBV HS45 HB5 HBW l0 l1 l2 hz HL
          go_wp2_with fail
          refine HSm.out.mono ?_
          rintro e w9 ⟨rfl, hb9⟩
          have HB19 := Lib.hid (HB18.out.trans (hb9.mono HB18.out.size))
          clear hb9 HSm HB18 c0 c1 c2 c3 d0 d1
          go_wp2_with fail
          go_ret
          exact ⟨rfl, HB19.out⟩
theorem own : ownKnob Try.prog.godebug = none := by kernel_rfl
theorem laidOut : laidOutB Try.prog = true := by kernel_rfl
theorem cells_uint8 : Try.prog.cellsOf 5 = 1 := by kernel_rfl
set_option maxRecDepth 100000 in
theorem lifted (os : Os) (started : os.Started) (H : Type) (enc : TypeId × Value → H) :
    ReturnsInHanded {} Try.checked os 4 .any (Rows.plainPrefixSpec.pre6 enc Try.prog Try.f4 Rows.plainPrefixRow.domain false) (Rows.plainPrefixSpec.post enc Try.prog Try.f4 false true false false) := by
  refine returnsInHanded_of_change (C := Try.checked) own started (by kernel_rfl) Try.func4
    (ChangeSpec.witness6 (enc := enc) (C := Try.checked) false ⟨#[], #[.slice none 0 0, .agg #[.int .i64 0, .int .i64 0, .int .i64 0]], []⟩ 8 (by kernel_rfl) (by kernel_rfl) (by kernel_rfl) (by kernel_rfl)) ?_
  intro W base args ds gs before hval0 hW _ _
  have hval : ∀ (j : Nat) t v, Try.f4.params[j]? = some t → args[j]? = some v → Value.okWide Try.prog W .any base t v := hval0
  have hlt := hW.lt
  have hW' := hW
  obtain ⟨p, q, hA0, hV, hpq, _, _⟩ := hW
  have hA : DataW.TrodAll enc Try.prog W 0 (fun _ => true) true Try.f4.params.toList args.toList ds p := hA0
  rw [Try.params4] at hA hval
  obtain ⟨v0, vs0, d0, ds0, p0, q0, hargs, rfl, rfl, h0, r0⟩ := trodAll_cons hA
  obtain ⟨v1, vs1, d1, ds1, p1, q1, rfl, rfl, rfl, h1, r1⟩ := trodAll_cons r0
  obtain ⟨rfl, rfl, rfl⟩ := trodAll_nil r1
  obtain rfl : args = #[v0, v1] := by cases args; simp_all
  obtain ⟨rfl, rfl⟩ := trodVars_none hV
  obtain ⟨A0, cap0, zs0, rfl, hl0, hcap0, hnil0, hr0, hw0⟩ := open_nums' Try.underlying22 Try.underlying5 cells_uint8 (hval 0 22 v0 rfl rfl) h0 (fun x hx => hlt x (by rw [hpq]; simp [hx]))
  have hz0 : ByteL zs0 := fun c hc => by
    have : 0 ≤ c ∧ c ≤ 255 := by simpa [Lit.wf, IntKind.min, IntKind.max, IntKind.bits, IntKind.signed] using hw0 c hc
    omega
  obtain ⟨a1, b1, e1, rfl⟩ := open_limits (hval 1 24 v1 rfl rfl) h1
  refine (walk W A0 cap0 zs0 hcap0 hr0 hz0 a1 b1 e1).mono fun e W' ⟨he, hbl⟩ => ?_
  subst he
  exact ⟨_, rfl, law_post laidOut (by kernel_rfl) rfl (by kernel_rfl) Try.underlying4 rfl rfl rfl hW' hbl⟩

theorem over : Rows.plainPrefixRow.holds Try.pinned (OpenSpec.ofChange Rows.plainPrefixSpec) :=
  OpenClaim.holds_of_wide 4 Try.f4 rfl rfl rfl rfl rfl rfl rfl ⟨rfl, rfl, rfl, rfl, rfl⟩ rfl rfl rfl rfl rfl (by kernel_rfl) Try.func4 (by kernel_rfl)
    (of_decide_eq_true (by kernel_rfl)) (by unfold Func.isWrapper; first | (rw [if_pos (by decide +kernel)]; kernel_rfl) | (rw [if_neg (by decide +kernel)]; exact ⟨rfl, rfl⟩))
    (fun os started H enc _ => lifted os started H enc)

/-- The statement. -/
theorem proved : Rows.PlainPrefixSaid := over
#print axioms proved
end Go.Proofs.Ytchhbcmkhbfpoaa.plainPrefix
