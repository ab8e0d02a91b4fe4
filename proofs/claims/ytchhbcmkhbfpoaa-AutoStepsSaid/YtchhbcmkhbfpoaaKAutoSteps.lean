/-
  PROVED: the law AutoSteps returns true for every slice of bytes and all limits, and leaves its arguments as they were (Rows.AutoStepsSaid). Conditions: none beside the row's own.
-/
import Derived.Test.YtchhbcmkhbfpoaaKBM
import Derived.Test.YtchhbcmkhbfpoaaKAG
namespace Go.Proofs.Ytchhbcmkhbfpoaa.autoSteps
open Go.ChangeShapes Go.WideShapes Go.ChangeAt Go.RowKit

def kSt : List Bool := [false, false, false, false, false, false, false, false, false, false, false, false, false, false, false, true, true, true, false, false, false, false, false, false, false, false, false, false, false, false, false, false, false, false, false, false, false, false, false, false, false, false, false, false, false, false, false, false, false, false, false, false, false, false, false, false, false, false, false, false, false, false, false, false, false, false, false, false, false, false, true, true, true, true, true, true, true, true, true, true, true, true, true, true, true, true, true, true, true, true, true, true, true, true, true, true, true, true, true, true, true, true, true, true, true, true, true, true, true, true, true, true, true, true, true, true, true, true, true, true, true, true, true, true, true, true, true, true, true, true, true, true, true, true, true, true, true, true, true, true, true, true, true, true, true, true, true, true, true, true, true, true, true, true, true, true, true, true, true, true, true, true]
theorem fr_zero {D K : Nat} {B : List Int} {i s s' N E} (h : FR D K B i s i s' N E) : s = s' ∧ E = [] := by
  cases h with
  | refl => exact ⟨rfl, rfl⟩
  | cons hi hn g => have := g.le; omega
theorem sc_len (L : List Int) (D K S : Nat) (hl : L.length ≤ 300) : (scNotes L D K S).length ≤ 1000000000 ∧ (scTop L D K).evs.length ≤ 1000000000 := by
  obtain ⟨x1, x2, x3, x4⟩ := (bd_item (B := L) D K (L.length + 1) 0 1 false (Nat.zero_le _) (by omega)).toBd
  have e : scItem L D K (L.length + 1) 0 1 false = scTop L D K := rfl
  rw [e] at x1 x2 x3 x4
  have h : (scTop L D K).notes.length ≤ 2000 ∧ (scTop L D K).evs.length ≤ 2000 := by
    cases ho : (scTop L D K).ok with
    | true => have := x3 ho; omega
    | false => have := x4 ho; omega
  refine ⟨?_, by omega⟩
  unfold scNotes
  rw [List.length_append, List.length_append]
  have h1 : ∀ (P : Prop) [Decidable P] (x : Note), (if P then [x] else []).length ≤ 1 := fun P _ x => by split <;> simp
  have := h1 ((scTop L D K).ok = true ∧ (scTop L D K).to < L.length) ((scTop L D K).to, 2)
  have := h1 (S < L.length) (S, 1)
  omega
set_option maxHeartbeats 4000000 in
set_option maxRecDepth 100000 in
theorem walk (w : World) (A0 : Option Addr) (cap0 : Nat) (L : List Int) (hcap0 : L.length ≤ cap0) (hr0 : Rd w w.heap.size .u8 A0 L) (hz0 : ByteL L) (d k s : Int) :
    Calls Try.prog 3 #[.slice A0 L.length cap0, vL d k s] w fun e w' => e = .returned (.bool true) ∧ Below w.heap.size w w' := by
  obtain ⟨w1, hw1, b1, S1⟩ := iblk1 w 24 #[.int .i64 d, .int .i64 k, .int .i64 s]
  obtain ⟨p0, p1, p2⟩ := lblk b1
  have HA := Lib.hid (auto_awake w1)
  have HS := Lib.hid S1
  have HL := Lib.hid (fun v (hb : Below w1.heap.size w1 v) => lblk (b1.on hb))
  have HR1 := Lib.hid (fun v => ref_Right d k s v)
  by_cases hbig : (300 : Int) < (L.length : Int)
  · clear hr0 hz0 S1 b1 HR1 HL
    unfold vL
    go_enter Try.func3, Try.ntmps3
    go_wp2_with fail
    refine HA.out.mono ?_
    rintro e w2 ⟨rfl, hb2⟩
    have HB2 := Lib.hid (HS.out.trans (hb2.mono HS.out.size))
    clear hb2 HA
    go_wp2_with fail
    go_ret
    exact ⟨rfl, HB2.out⟩
  have hlen : L.length ≤ 300 := by omega
  cases hright : rightL d k s with
  | false =>
    have HN := Lib.hid (fun v => auto_New_bad v d k s hright)
    rw [hright] at HR1
    clear hr0 hz0 S1 b1 hlen hcap0
    unfold vL at HN HR1 ⊢
    go_enter Try.func3, Try.ntmps3
    go_wp2_with fail
    refine HA.out.mono ?_
    rintro e w2 ⟨rfl, hb2⟩
    have HB2 := Lib.hid hb2
    obtain ⟨l0, l1, l2⟩ := HL.out w2 hb2
    clear hb2 HA
    go_wp2_with fail
    refine (HN.out w2).mono ?_
    rintro e w3 ⟨rfl, hb3⟩
    have HB3 := Lib.hid (HB2.out.trans (hb3.mono HB2.out.size))
    obtain ⟨m0, m1, m2⟩ := HL.out w3 HB3.out
    clear hb3 HB2 l0 l1 l2
    go_wp2_with fail
    refine (HR1.out w3).mono ?_
    rintro e w4 ⟨rfl, hb4⟩
    have HB4 := Lib.hid (HS.out.trans ((HB3.out.trans (hb4.mono HB3.out.size)).mono HS.out.size))
    clear hb4 HB3
    go_wp2_with fail
    go_ret
    exact ⟨rfl, HB4.out⟩
  | true =>
    obtain ⟨d1, d2, k1, k2, s1, s2⟩ := rightL_true.1 hright
    rw [hright] at HR1
    obtain ⟨D, rfl⟩ : ∃ D : Nat, d = D := ⟨d.toNat, by omega⟩
    obtain ⟨K, rfl⟩ : ∃ K : Nat, k = K := ⟨k.toNat, by omega⟩
    have HN := Lib.hid (fun v => auto_New v D K s (by omega) (by omega) (by omega) (by omega) s1 s2)
    have HRun := Lib.hid (fun v (hr : Rd v v.heap.size .u8 A0 L) => ref_Run v A0 cap0 L D K s hr hz0 hlen hcap0 (by omega) (by omega) s1)
    have HD := Lib.hid (fun _ : Unit => And.intro d1 (And.intro d2 (And.intro k1 (And.intro k2 (And.intro s1 hlen)))))
    have HRd := Lib.hid (And.intro hr0 hz0)
    clear hr0 hz0 b1 S1 hlen hcap0 hright
    unfold vL at HN HR1 HRun ⊢
    go_enter Try.func3, Try.ntmps3
    go_wp2_with fail
    refine HA.out.mono ?_
    rintro e w2 ⟨rfl, hb2⟩
    have HB2 := Lib.hid hb2
    obtain ⟨l0, l1, l2⟩ := HL.out w2 hb2
    clear hb2 HA
    go_wp2_with fail
    refine (HN.out w2).mono ?_
    rintro e w3 ⟨own, a, sf, f, rfl, hAu, ha, hown, hb3⟩
    have HB3 := Lib.hid (HB2.out.trans (hb3.mono HB2.out.size))
    have HAu := Lib.hid hAu
    have HSA : Hid (∀ j, SA own a j → w2.heap.size ≤ j) := fun j hj => hj.elim (fun e => e ▸ ha) (hown j)
    obtain ⟨m0, m1, m2⟩ := HL.out w3 HB3.out
    clear hb3 l0 l1 l2 HN hAu ha hown
    go_wp2_with fail
    refine (HR1.out w3).mono ?_
    rintro e w4 ⟨rfl, hb4⟩
    have HAu4 := Lib.hid (HAu.out.on hb4)
    have HB4 := Lib.hid (HB3.out.trans (hb4.mono HB3.out.size))
    obtain ⟨n0, n1, n2⟩ := HL.out w4 HB4.out
    clear hb4 m0 m1 m2 HAu HB3 HR1
    go_wp2_with fail
    have hrd4 : Rd w4 w4.heap.size .u8 A0 L := ((HRd.out.1.below HS.out).below (HB4.out.mono HS.out.size)).more (Nat.le_trans HS.out.size HB4.out.size)
    refine (HRun.out w4 hrd4).mono ?_
    rintro e w5 ⟨B, g, rfl, hsc, hB1, hB2, hb5⟩
    have HAu5 := Lib.hid (HAu4.out.on hb5)
    have HB5 := Lib.hid (HB4.out.trans (hb5.mono HB4.out.size))
    have HSc := Lib.hid hsc
    have HBB := Lib.hid (And.intro hB1 hB2)
    obtain ⟨o0, o1, o2⟩ := HL.out w5 HB5.out
    have HSA5 : Hid (∀ j, SA own a j → j < w4.heap.size) := fun j hj => hj.elim (fun e => e ▸ HAu4.out.blk.lt) (HAu4.out.lo j)
    clear hb5 hsc hB1 hB2 n0 n1 n2 HAu4 HRun hrd4
    have hsl := sc_len L D K s.toNat (HD.out ()).2.2.2.2.2
    have b6 : Blk (w5.alloc (.cells #[.pointer (some ⟨g, 0, none⟩)] 31)) w5.heap.size 31 #[.pointer (some ⟨g, 0, none⟩)] := Blk.fresh _ _ _
    have S6 := below_alloc w5 (.cells #[.pointer (some ⟨g, 0, none⟩)] 31)
    have HF1 := Lib.hid (ref_ScanFirst _ _ _ _ _ _ _ _ _ _ _ (HSc.out.on S6 HBB.out.2) hsl.1)
    have HEV := Lib.hid (fun _ : Unit => hsl)
    obtain ⟨fo, hfo⟩ : ∃ fo, firstN none (scNotes L D K s.toNat) = fo := ⟨_, rfl⟩
    rw [hfo] at HF1
    have HFO := Lib.hid hfo
    have g6 := b6.cell 0
    simp only [List.getElem?_toArray, List.getElem?_cons_zero] at g6
    clear hfo hsl
    obtain ⟨TI, hTI⟩ : ∃ z : Int, ((scTop L D K).to : Int) = z := ⟨_, rfl⟩
    obtain ⟨okb, hok⟩ : ∃ z : Bool, (scTop L D K).ok = z := ⟨_, rfl⟩
    obtain ⟨fa, hfa⟩ : ∃ z : Int, oAt fo = z := ⟨_, rfl⟩
    obtain ⟨fe, hfe⟩ : ∃ z : Int, oE fo = z := ⟨_, rfl⟩
    obtain ⟨fb, hfb⟩ : ∃ z : Bool, fo.isSome = z := ⟨_, rfl⟩
    rw [hfa, hfe, hfb] at HF1
    have HT := Lib.hid (And.intro hTI hok)
    have HFF := Lib.hid (And.intro hfa (And.intro hfe hfb))
    obtain ⟨w6, hw6⟩ : ∃ w6, w5.alloc (.cells #[.pointer (some ⟨g, 0, none⟩)] 31) = w6 := ⟨_, rfl⟩
    rw [hw6] at b6 S6 HF1 g6
    have HB6 := Lib.hid b6
    have HS6 := Lib.hid S6
    go_wp2_with fail

    clear hfa hfe hfb hTI hok b6 S6 hw6 g6
    refine HF1.out.mono ?_
    rintro e w7 ⟨rfl, hb7⟩
    have HB7 := Lib.hid (HS6.out.trans (hb7.mono HS6.out.size))
    have HG7 := Lib.hid (HB6.out.on hb7)
    have HAu7 := Lib.hid (HAu5.out.on HB7.out)
    obtain ⟨q0, q1, q2⟩ := HL.out w7 (HB5.out.trans (HB7.out.mono HB5.out.size))
    have HCp := Lib.hid (auto_Cap w7 own a f D K _ HAu7.out.weak)
    clear hb7 HF1 HB6 HS6 o0 o1 o2 HAu5
    have e1 : IntKind.i64.wrap ((D : Int) * 2) = (D : Int) * 2 := IntWalk.i64_in _ (by omega)
    have hDK : (D : Int) * (2 * (K : Int)) = (D : Int) * 2 * (K : Int) := by rw [Int.mul_assoc]
    obtain ⟨R, hR⟩ : ∃ z : Int, (D : Int) * 2 * (K : Int) = z := ⟨_, rfl⟩
    have hR0 : 0 ≤ R := by rw [← hR]; exact Int.mul_nonneg (by omega) (by omega)
    have hR1 : R ≤ 131072 := by
      rw [← hR]
      calc (D : Int) * 2 * (K : Int) ≤ 128 * 1024 := Int.mul_le_mul (by omega) k2 (by omega) (by omega)
        _ = 131072 := by decide
    have e2 : IntKind.i64.wrap ((D : Int) * 2 * (K : Int)) = R := by rw [hR]; exact IntWalk.i64_in _ (by omega)
    rw [hDK, hR] at HCp
    have hRR : ¬ (R < 0) := by omega
    go_wp2_with fail
    refine HCp.out.mono ?_
    rintro e w8 ⟨rfl, rfl⟩
    clear HCp
    have hRR2 : ¬ (R < R) := by omega
    go_wp2_with fail
    obtain ⟨w9, hw9⟩ : ∃ w9, (w8.alloc (.cells #[.int .i64 0] 3)).alloc (.cells #[.int .i64 0] 3) = w9 := ⟨_, rfl⟩
    have S9 : Below w8.heap.size w8 w9 := hw9 ▸ (below_alloc _ _).alloc (by simp) _
    have bt9 : Blk w9 w8.heap.size 3 #[.int .i64 0] := hw9 ▸ (Blk.fresh _ _ _).alloc _
    have bi9 : Blk w9 (w8.heap.size + 1) 3 #[.int .i64 0] := hw9 ▸ Blk.freshAt _ _ _ _ (by simp)
    have hs5 : w5.heap.size < w8.heap.size := HG7.out.lt
    have hs25 : w2.heap.size ≤ w5.heap.size := Nat.le_of_lt (Nat.lt_of_le_of_lt (HSA.out a (.inl rfl)) (Nat.lt_of_lt_of_le (HSA5.out a (.inl rfl)) (Nat.le_trans HBB.out.1 HBB.out.2)))
    have hw02 : w.heap.size ≤ w2.heap.size := Nat.le_trans HS.out.size HB2.out.size
    have hB58 : Below w5.heap.size w5 w8 := HB7.out
    have hB59 : Below w5.heap.size w5 w9 := hB58.trans (S9.mono hB58.size)
    have hBw5 : Below w.heap.size w w5 := HS.out.trans (HB5.out.mono HS.out.size)
    have F : LFix w w5 own a D K s A0 cap0 L B g w5.heap.size w8.heap.size := by
      obtain ⟨z1, z2, z3, z4, z5, z6⟩ := HD.out ()
      refine ⟨by omega, by omega, z6, HRd.out.2, HRd.out.1, HSc.out, fun j hj => ?_, ?_, HBB.out.2, Nat.le_refl _, by omega, by omega, (HEV.out ()).2⟩
      · have := HSA.out j hj; have := HSA5.out j hj; have := HBB.out.1; omega
      · have := HSA.out a (.inl rfl); have := HSA5.out a (.inl rfl); have := HBB.out.1; omega
    have h0 : LS0 w w5 own a f D K s L B g w5.heap.size w8.heap.size 0 w9 := by
      refine ⟨hBw5.trans (hB59.mono hBw5.size), ⟨hB59.size, fun j _ hj => hB59.block j hj⟩, HG7.out.on S9, bt9.lt, fun j hj => ?_, .inl ⟨fun n _ => Nat.zero_le _, ?_⟩⟩
      · have := HSA5.out j hj; have := HBB.out.1; have := HBB.out.2; have := S9.size; omega
      · obtain ⟨s0, E1, E2, hA⟩ := ahead_of (D := D) (K := K) (S := s.toNat) (B := L) 0 (Nat.zero_le _) (fun n _ => Nat.zero_le _)
        obtain ⟨hs0, hE1⟩ := fr_zero hA.run
        subst hs0 hE1
        exact ⟨aq0, [], E2, _, hA, HAu7.out.on S9, am_zero D K s sf, AOk.zero D K, rfl, rfl, bt9⟩
    have hG0 : GiP w5 w5.heap.size w8.heap.size (w8.heap.size + 1) 0 w9 := ⟨bi9, by omega, by omega, by omega⟩
    have HF := Lib.hid F
    have HH0 := Lib.hid (And.intro h0 hG0)
    rw [hw9]
    clear h0 hG0 F hBw5 hB59 hB58 hw02 hs25 hs5 bi9 bt9 S9 hw9 HSc HBB HSA HSA5 HEV HG7 HAu7 HB7 HB5 HB4 HB2 q0 q1 q2 p0 p1 p2 hw1 HL HS HRd hRR hRR2 e1 e2 hDK hR0 hR1 d1 d2 k1 k2 s1 s2
    obtain ⟨NI, hNI⟩ : ∃ z : Int, (L.length : Int) = z := ⟨_, rfl⟩
    have HNI := Lib.hid hNI
    have HR := Lib.hid hR
    clear hR
    rw [hNI]
    refine wp_loop_mask kSt (fun n t W => ∃ k gi : Nat, n + k = L.length ∧ t 15 = .pointer (some ⟨gi, 0, none⟩) ∧ LS0 w w5 own a f D K s L B g w5.heap.size w8.heap.size k W ∧ GiP w5 w5.heap.size w8.heap.size gi k W) L.length ⟨0, w8.heap.size + 1, rfl, rfl, HH0.out.1, HH0.out.2⟩ ?_
    clear HH0
    intro n t W hI K' HK'
    obtain ⟨k, gi, hnk, h15, hLS, hGi⟩ := hI
    dsimp only [mask, kSt, Nat.reduceAdd]
    rw [h15]
    have hci := hGi.ci.cell 0
    simp only [List.getElem?_toArray, List.getElem?_cons_zero] at hci
    have hk0 : (0 : Int) ≤ (k : Int) := by omega
    by_cases hlt : (k : Int) < NI
    · have hkn : k < L.length := by omega
      have hkm : (k : Int) < 300 := by have := HF.out.len; omega
      obtain ⟨rb, ro, rfl, hrb, hrc⟩ := HF.out.rd.get hkn
      have S6 := below_alloc W (.cells #[.bool true] 4)
      have b6 : Blk (W.alloc (.cells #[.bool true] 4)) W.heap.size 4 #[.bool true] := Blk.fresh _ _ _
      obtain ⟨W6, hW6⟩ : ∃ W6, W.alloc (.cells #[.bool true] 4) = W6 := ⟨_, rfl⟩
      rw [hW6] at S6 b6
      have hLS6 := hLS.on S6
      have hGi6 := hGi.on S6
      have c6 : W6.cell? ⟨rb, ro + k, none⟩ = some (.int .u8 (L.getD k 0)) := by rw [(hLS.low.trans (S6.mono hLS.low.size)).cell (p := ⟨rb, ro + k, none⟩) hrb]; exact hrc
      have hci6 := hGi6.ci.cell 0
      simp only [List.getElem?_toArray, List.getElem?_cons_zero] at hci6
      have hmf : ∀ (fn : Fn) (first cap : Array Value) (w : World), (Instr.makeFunc fn first cap).run Try.prog w = .ok (.func fn first cap) w := fun _ _ _ _ => rfl
      have hcase : (GoodP own a f D K s L w8.heap.size k W6 ∧ (∀ m ∈ scNotes L D K s.toNat, k < m.1)) ∨ ((GoodP own a f D K s L w8.heap.size k W6 ∧ ∃ m ∈ scNotes L D K s.toNat, m.1 = k) ∨ BadP a D K s L k W6) := by
        rcases hLS6.ph with hg | hb
        · by_cases hex : ∃ m ∈ scNotes L D K s.toNat, m.1 = k
          · exact .inr (.inl ⟨hg, hex⟩)
          · refine .inl ⟨hg, fun m hm => ?_⟩
            have h1 := hg.1 m hm
            have h2 : m.1 ≠ k := fun e => hex ⟨m, hm, e⟩
            omega
        · exact .inr (.inr hb)
      rcases hcase with ⟨hg, hno⟩ | hbad
      · have HC := Lib.hid (step_good HF.out hLS6 hg hno hkn hGi6 (go := W.heap.size) ⟨by have := hGi.ci.lt; omega, by have := hLS.cs.lt; omega, by have := hLS.gtl; omega, hLS.same.1⟩ b6)
        have hfk : fb = true → (k : Int) < fa := fun h => by
          obtain ⟨u1, u2, u3⟩ := HFF.out
          cases hfo : fo with
          | none => rw [hfo] at u3; rw [← u3] at h; cases h
          | some m =>
            rw [hfo] at u1
            have hm : m ∈ scNotes L D K s.toNat := by
              rcases firstN_none (scNotes L D K s.toNat) with ⟨_, x0⟩ | ⟨m', x0, x1, _⟩
              · rw [HFO.out, hfo] at x0; cases x0
              · rw [HFO.out, hfo] at x0; injection x0 with x0; subst x0; exact x1
            have := hno m hm
            rw [← u1]
            show (k : Int) < (m.1 : Int)
            omega
        have HFK := Lib.hid hfk
        obtain ⟨cb, hcb⟩ : ∃ z : Int, L.getD k 0 = z := ⟨_, rfl⟩
        rw [hcb] at HC c6
        clear hcb
        clear hfk hno hg hLS6 hGi6 hLS hGi b6 S6 hrb hrc HFO
        go_wp2_with fail
        refine HC.out.mono ?_
        rintro e W7 ⟨rfl, x', n', hb, hw, hh, hd, hcap, hn', hls⟩
        have HLn := Lib.hid (fun q => auto_Len (W7.drewN q) a x' (hb.drewN q))
        rw [hh] at HLn
        have HDn := Lib.hid (fun q => auto_Done (W7.drewN q) a x' (hb.drewN q))
        rw [hd] at HDn
        obtain ⟨hT1, hT2⟩ := HT.out
        rw [hT1, hT2] at HDn
        have HCp := Lib.hid (fun q => auto_Cap (W7.drewN q) own a f D K x' (hw.on (below_drawnN (Below.refl _ _) q)))
        rw [show (D : Int) * (2 * (K : Int)) = R by rw [← HR.out, Int.mul_assoc]] at HCp
        have HEND : Hid (∀ V (z : Int), z = (k : Int) + 1 → Below W7.heap.size W7 V → LS0 w w5 own a f D K s L B g w5.heap.size w8.heap.size (k + 1) (V.alloc (.cells #[.int .i64 z] 3)) ∧ GiP w5 w5.heap.size w8.heap.size V.heap.size (k + 1) (V.alloc (.cells #[.int .i64 z] 3))) := fun V z hz hV => by
          subst hz
          have hV2 : Below W7.heap.size W7 (V.alloc (.cells #[.int .i64 ((k : Int) + 1)] 3)) := hV.alloc hV.size _
          refine ⟨hls.on hV2, ⟨Blk.fresh V 3 #[.int .i64 ((k : Int) + 1)], ?_, ?_, ?_⟩⟩
          · have := hls.same.1; have := hV.size; omega
          · have := hls.cs.lt; have := hV.size; omega
          · have := hls.gtl; have := hV.size; omega
        obtain ⟨AV, cv, v6, hev⟩ := HF.out.scan.ev_at
        have v6' := hls.same.cell HF.out.scan.ge v6
        have hevs : (n' = (scTop L D K).evs.length) ∨ (((n' : Int) < ((scTop L D K).evs.length : Int)) ∧ ∃ gv pe, AV = some ⟨gv, 0, none⟩ ∧ W7.cell? ⟨gv, n' * 7 + 4, none⟩ = some (.int .i64 pe) ∧ (k : Int) < pe) := by
          rcases hn' with h | ⟨e, he, hpl⟩
          · exact .inl h
          · obtain ⟨gv, hA, hB, hcells⟩ := hev n' e he
            refine .inr ⟨by have := (List.getElem?_eq_some_iff.1 he).1; omega, gv, (e.pl : Int), hA, hls.same.cell hB (hcells 4 (by decide)), by omega⟩
        have x0 := hcap.ct.cell 0
        have x1 := hcap.cs.cell 0
        have x2 := hcap.ci.cell 0
        have x3 := hcap.co.cell 0
        simp only [List.getElem?_toArray, List.getElem?_cons_zero] at x0 x1 x2 x3
        have hn0 : (0 : Int) ≤ (n' : Int) := by omega
        have HEL : Hid (Unit → (scTop L D K).evs.length ≤ 1000000000) := fun _ => HF.out.evl
        obtain ⟨EL, hEL⟩ : ∃ z : Nat, (scTop L D K).evs.length = z := ⟨_, rfl⟩
        rw [hEL] at hevs HEL v6 v6'
        obtain ⟨EI, hEI⟩ : ∃ z : Int, (EL : Int) = z := ⟨_, rfl⟩
        rw [hEI] at hevs
        have hEI1 : EI ≤ 1000000000 := by have := HEL.out (); omega
        have hEI0 : 0 ≤ EI := by omega
        have HEQ := Lib.hid hEI
        have e3 : IntKind.i64.wrap ((k : Int) + 1) = (k : Int) + 1 := IntWalk.i64_in _ (by omega)
        clear hev hb hw hh hd hcap hn' hls HC hT1 hT2 hEL v6 hci6 c6 HEL HR hci h15
        cases fb with
        | false =>
          go_wp2_with fail
          cases okb with
          | false =>
            simp only [Bool.false_and] at HDn
            go_quiet (first | (with_reducible exact Calls.quiet_of_same (HLn.out _)) | (with_reducible exact Calls.quiet_of_same (HDn.out _)) | (with_reducible exact Calls.quiet_of_same (HCp.out _)))
            have hq7 : Below W7.heap.size W7 (W7.drewN nq) := below_drawnN (Below.refl _ _) _
            have HQ7 := Lib.hid hq7
            clear hq7
            have y0 := (show (W7.drewN nq).cell? _ = _ from x0)
            have y1 := (show (W7.drewN nq).cell? _ = _ from x1)
            have y2 := (show (W7.drewN nq).cell? _ = _ from x2)
            have y6 := (show (W7.drewN nq).cell? _ = _ from v6')
            clear HLn HDn HCp x0 x1 x2 x3 v6'
            rcases hevs with hev1 | ⟨hlt2, gv, pe, rfl, hcell, hpe⟩
            · have hg : decide ((n' : Int) < EI) = false := by rw [← hEI, hev1]; simp
              have hev2 : (n' : Int) = EI := by rw [← hEI, hev1]
              clear hev1
              generalize (n' : Int) = nI at *
              clear hev2
              generalize W7.drewN nq = V7 at *
              go_wp2_with fail
              go_quiet (fail)
              have hV8 : Below W7.heap.size W7 (V7.drewN nq) := below_drawnN HQ7.out _
              have HV8 := Lib.hid hV8
              have y3 := (show (V7.drewN nq).cell? _ = _ from y2)
              clear hV8 y0 y1 y2
              generalize V7.drewN nq = V8 at *
              have a0 := (Blk.fresh V8 3 #[.int .i64 k]).cell 0
              have a1 := (Blk.fresh V8 3 #[.int .i64 k]).free 0
              simp only [List.getElem?_toArray, List.getElem?_cons_zero] at a0
              go_wp2_with fail
              refine HK'.out _ _ (n - 1) ?_ ?_ ?_
              · omega
              · rfl
              · refine ⟨k + 1, V8.heap.size, by omega, rfl, (HEND.out V8 _ ?_ HV8.out).1, (HEND.out V8 _ ?_ HV8.out).2⟩ <;> omega
            · have hpk : ¬ pe ≤ (k : Int) := by omega
              have y7 := (show (W7.drewN nq).cell? _ = _ from hcell)
              clear hcell
              generalize W7.drewN nq = V7 at *
              go_wp2_with fail
              go_quiet (fail)
              clear y7
              have hV8 : Below W7.heap.size W7 (V7.drewN nq) := below_drawnN HQ7.out _
              have HV8 := Lib.hid hV8
              have y3 := (show (V7.drewN nq).cell? _ = _ from y2)
              clear hV8 y0 y1 y2
              generalize V7.drewN nq = V8 at *
              have a0 := (Blk.fresh V8 3 #[.int .i64 k]).cell 0
              have a1 := (Blk.fresh V8 3 #[.int .i64 k]).free 0
              simp only [List.getElem?_toArray, List.getElem?_cons_zero] at a0
              go_wp2_with fail
              refine HK'.out _ _ (n - 1) ?_ ?_ ?_
              · omega
              · rfl
              · refine ⟨k + 1, V8.heap.size, by omega, rfl, (HEND.out V8 _ ?_ HV8.out).1, (HEND.out V8 _ ?_ HV8.out).2⟩ <;> omega
          | true =>
            simp only [Bool.true_and] at HDn
            obtain ⟨kb, hkb⟩ : ∃ b : Bool, ((k : Int) + 1 == TI) = b := ⟨_, rfl⟩
            rw [show decide ((k : Int) + 1 = TI) = kb from hkb] at HDn
            go_quiet (first | (with_reducible exact Calls.quiet_of_same (HLn.out _)) | (with_reducible exact Calls.quiet_of_same (HDn.out _)) | (with_reducible exact Calls.quiet_of_same (HCp.out _)))
            have hq7 : Below W7.heap.size W7 (W7.drewN nq) := below_drawnN (Below.refl _ _) _
            have HQ7 := Lib.hid hq7
            clear hq7
            have y0 := (show (W7.drewN nq).cell? _ = _ from x0)
            have y1 := (show (W7.drewN nq).cell? _ = _ from x1)
            have y2 := (show (W7.drewN nq).cell? _ = _ from x2)
            have y6 := (show (W7.drewN nq).cell? _ = _ from v6')
            clear HLn HDn HCp x0 x1 x2 x3 v6'
            rcases hevs with hev1 | ⟨hlt2, gv, pe, rfl, hcell, hpe⟩
            · have hg : decide ((n' : Int) < EI) = false := by rw [← hEI, hev1]; simp
              have hev2 : (n' : Int) = EI := by rw [← hEI, hev1]
              clear hev1
              generalize (n' : Int) = nI at *
              clear hev2
              generalize W7.drewN nq = V7 at *
              go_wp2_with fail
              go_quiet (fail)
              have hV8 : Below W7.heap.size W7 (V7.drewN nq) := below_drawnN HQ7.out _
              have HV8 := Lib.hid hV8
              have y3 := (show (V7.drewN nq).cell? _ = _ from y2)
              clear hV8 y0 y1 y2
              generalize V7.drewN nq = V8 at *
              have a0 := (Blk.fresh V8 3 #[.int .i64 k]).cell 0
              have a1 := (Blk.fresh V8 3 #[.int .i64 k]).free 0
              simp only [List.getElem?_toArray, List.getElem?_cons_zero] at a0
              go_wp2_with fail
              refine HK'.out _ _ (n - 1) ?_ ?_ ?_
              · omega
              · rfl
              · refine ⟨k + 1, V8.heap.size, by omega, rfl, (HEND.out V8 _ ?_ HV8.out).1, (HEND.out V8 _ ?_ HV8.out).2⟩ <;> omega
            · have hpk : ¬ pe ≤ (k : Int) := by omega
              have y7 := (show (W7.drewN nq).cell? _ = _ from hcell)
              clear hcell
              generalize W7.drewN nq = V7 at *
              go_wp2_with fail
              go_quiet (fail)
              clear y7
              have hV8 : Below W7.heap.size W7 (V7.drewN nq) := below_drawnN HQ7.out _
              have HV8 := Lib.hid hV8
              have y3 := (show (V7.drewN nq).cell? _ = _ from y2)
              clear hV8 y0 y1 y2
              generalize V7.drewN nq = V8 at *
              have a0 := (Blk.fresh V8 3 #[.int .i64 k]).cell 0
              have a1 := (Blk.fresh V8 3 #[.int .i64 k]).free 0
              simp only [List.getElem?_toArray, List.getElem?_cons_zero] at a0
              go_wp2_with fail
              refine HK'.out _ _ (n - 1) ?_ ?_ ?_
              · omega
              · rfl
              · refine ⟨k + 1, V8.heap.size, by omega, rfl, (HEND.out V8 _ ?_ HV8.out).1, (HEND.out V8 _ ?_ HV8.out).2⟩ <;> omega
        | true =>
          have hkf := HFK.out rfl
          have hkf2 : ¬ fa ≤ (k : Int) := by omega
          go_wp2_with fail
          cases okb with
          | false =>
            simp only [Bool.false_and] at HDn
            go_quiet (first | (with_reducible exact Calls.quiet_of_same (HLn.out _)) | (with_reducible exact Calls.quiet_of_same (HDn.out _)) | (with_reducible exact Calls.quiet_of_same (HCp.out _)))
            have hq7 : Below W7.heap.size W7 (W7.drewN nq) := below_drawnN (Below.refl _ _) _
            have HQ7 := Lib.hid hq7
            clear hq7
            have y0 := (show (W7.drewN nq).cell? _ = _ from x0)
            have y1 := (show (W7.drewN nq).cell? _ = _ from x1)
            have y2 := (show (W7.drewN nq).cell? _ = _ from x2)
            have y6 := (show (W7.drewN nq).cell? _ = _ from v6')
            clear HLn HDn HCp x0 x1 x2 x3 v6'
            rcases hevs with hev1 | ⟨hlt2, gv, pe, rfl, hcell, hpe⟩
            · have hg : decide ((n' : Int) < EI) = false := by rw [← hEI, hev1]; simp
              have hev2 : (n' : Int) = EI := by rw [← hEI, hev1]
              clear hev1
              generalize (n' : Int) = nI at *
              clear hev2
              generalize W7.drewN nq = V7 at *
              go_wp2_with fail
              go_quiet (fail)
              have hV8 : Below W7.heap.size W7 (V7.drewN nq) := below_drawnN HQ7.out _
              have HV8 := Lib.hid hV8
              have y3 := (show (V7.drewN nq).cell? _ = _ from y2)
              clear hV8 y0 y1 y2
              generalize V7.drewN nq = V8 at *
              have a0 := (Blk.fresh V8 3 #[.int .i64 k]).cell 0
              have a1 := (Blk.fresh V8 3 #[.int .i64 k]).free 0
              simp only [List.getElem?_toArray, List.getElem?_cons_zero] at a0
              go_wp2_with fail
              refine HK'.out _ _ (n - 1) ?_ ?_ ?_
              · omega
              · rfl
              · refine ⟨k + 1, V8.heap.size, by omega, rfl, (HEND.out V8 _ ?_ HV8.out).1, (HEND.out V8 _ ?_ HV8.out).2⟩ <;> omega
            · have hpk : ¬ pe ≤ (k : Int) := by omega
              have y7 := (show (W7.drewN nq).cell? _ = _ from hcell)
              clear hcell
              generalize W7.drewN nq = V7 at *
              go_wp2_with fail
              go_quiet (fail)
              clear y7
              have hV8 : Below W7.heap.size W7 (V7.drewN nq) := below_drawnN HQ7.out _
              have HV8 := Lib.hid hV8
              have y3 := (show (V7.drewN nq).cell? _ = _ from y2)
              clear hV8 y0 y1 y2
              generalize V7.drewN nq = V8 at *
              have a0 := (Blk.fresh V8 3 #[.int .i64 k]).cell 0
              have a1 := (Blk.fresh V8 3 #[.int .i64 k]).free 0
              simp only [List.getElem?_toArray, List.getElem?_cons_zero] at a0
              go_wp2_with fail
              refine HK'.out _ _ (n - 1) ?_ ?_ ?_
              · omega
              · rfl
              · refine ⟨k + 1, V8.heap.size, by omega, rfl, (HEND.out V8 _ ?_ HV8.out).1, (HEND.out V8 _ ?_ HV8.out).2⟩ <;> omega
          | true =>
            simp only [Bool.true_and] at HDn
            obtain ⟨kb, hkb⟩ : ∃ b : Bool, ((k : Int) + 1 == TI) = b := ⟨_, rfl⟩
            rw [show decide ((k : Int) + 1 = TI) = kb from hkb] at HDn
            go_quiet (first | (with_reducible exact Calls.quiet_of_same (HLn.out _)) | (with_reducible exact Calls.quiet_of_same (HDn.out _)) | (with_reducible exact Calls.quiet_of_same (HCp.out _)))
            have hq7 : Below W7.heap.size W7 (W7.drewN nq) := below_drawnN (Below.refl _ _) _
            have HQ7 := Lib.hid hq7
            clear hq7
            have y0 := (show (W7.drewN nq).cell? _ = _ from x0)
            have y1 := (show (W7.drewN nq).cell? _ = _ from x1)
            have y2 := (show (W7.drewN nq).cell? _ = _ from x2)
            have y6 := (show (W7.drewN nq).cell? _ = _ from v6')
            clear HLn HDn HCp x0 x1 x2 x3 v6'
            rcases hevs with hev1 | ⟨hlt2, gv, pe, rfl, hcell, hpe⟩
            · have hg : decide ((n' : Int) < EI) = false := by rw [← hEI, hev1]; simp
              have hev2 : (n' : Int) = EI := by rw [← hEI, hev1]
              clear hev1
              generalize (n' : Int) = nI at *
              clear hev2
              generalize W7.drewN nq = V7 at *
              go_wp2_with fail
              go_quiet (fail)
              have hV8 : Below W7.heap.size W7 (V7.drewN nq) := below_drawnN HQ7.out _
              have HV8 := Lib.hid hV8
              have y3 := (show (V7.drewN nq).cell? _ = _ from y2)
              clear hV8 y0 y1 y2
              generalize V7.drewN nq = V8 at *
              have a0 := (Blk.fresh V8 3 #[.int .i64 k]).cell 0
              have a1 := (Blk.fresh V8 3 #[.int .i64 k]).free 0
              simp only [List.getElem?_toArray, List.getElem?_cons_zero] at a0
              go_wp2_with fail
              refine HK'.out _ _ (n - 1) ?_ ?_ ?_
              · omega
              · rfl
              · refine ⟨k + 1, V8.heap.size, by omega, rfl, (HEND.out V8 _ ?_ HV8.out).1, (HEND.out V8 _ ?_ HV8.out).2⟩ <;> omega
            · have hpk : ¬ pe ≤ (k : Int) := by omega
              have y7 := (show (W7.drewN nq).cell? _ = _ from hcell)
              clear hcell
              generalize W7.drewN nq = V7 at *
              go_wp2_with fail
              go_quiet (fail)
              clear y7
              have hV8 : Below W7.heap.size W7 (V7.drewN nq) := below_drawnN HQ7.out _
              have HV8 := Lib.hid hV8
              have y3 := (show (V7.drewN nq).cell? _ = _ from y2)
              clear hV8 y0 y1 y2
              generalize V7.drewN nq = V8 at *
              have a0 := (Blk.fresh V8 3 #[.int .i64 k]).cell 0
              have a1 := (Blk.fresh V8 3 #[.int .i64 k]).free 0
              simp only [List.getElem?_toArray, List.getElem?_cons_zero] at a0
              go_wp2_with fail
              refine HK'.out _ _ (n - 1) ?_ ?_ ?_
              · omega
              · rfl
              · refine ⟨k + 1, V8.heap.size, by omega, rfl, (HEND.out V8 _ ?_ HV8.out).1, (HEND.out V8 _ ?_ HV8.out).2⟩ <;> omega
      · obtain ⟨m, hm, hmk, hm2, hCb⟩ := step_bad HF.out hLS6 hbad hkn hGi6 (.func (.func 12) #[] #[.pointer (some ⟨w8.heap.size, 0, none⟩), .pointer (some ⟨w5.heap.size, 0, none⟩), .pointer (some ⟨gi, 0, none⟩), .pointer (some ⟨W.heap.size, 0, none⟩)])
        have hfo : fo = some m := by rw [← HFO.out]; exact hm
        subst hfo
        obtain ⟨u1, u2, u3⟩ := HFF.out
        have hfa : (m.1 : Int) = fa := u1
        have hfe : m.2 = fe := u2
        have hfb : true = fb := u3
        subst hfb
        rw [hfe, hfa] at hCb
        have hfe0 : fe ≠ 0 := hfe ▸ hm2
        have hfak : fa ≤ (k : Int) := by omega
        have hfa0 : 0 ≤ fa := by omega
        have HC := Lib.hid hCb
        obtain ⟨cb, hcb⟩ : ∃ z : Int, L.getD k 0 = z := ⟨_, rfl⟩
        rw [hcb] at HC c6
        have e4 : IntKind.i64.wrap (fa + 1) = fa + 1 := IntWalk.i64_in _ (by omega)
        clear hcb hCb hm hm2 hfa hfe u1 u2 u3 hbad hLS6 hGi6 hLS hGi b6 S6 hrb hrc HFO hmk HFF
        go_wp2_with fail
        refine HC.out.mono ?_
        rintro e W7 ⟨rfl, x', hb, hh, hw, hgi, hls⟩
        have HLn := Lib.hid (auto_Len W7 a x' hb)
        rw [hh] at HLn
        have HDn := Lib.hid (auto_Done W7 a x' hb)
        rw [hw, show (x'.done && fe == 0) = false by simp [hfe0]] at HDn
        have HCl := Lib.hid (auto_Close W7 a x' hb (by omega) (by omega))
        rw [show closeV x' = (fe, fa) by unfold closeV; rw [if_pos (by rw [hw]; exact hfe0), hw, hh]; simp] at HCl
        unfold vcells at HCl
        dsimp only at HCl
        have HEND : Hid (∀ V (z : Int), z = (k : Int) + 1 → Below W7.heap.size W7 V → LS0 w w5 own a f D K s L B g w5.heap.size w8.heap.size (k + 1) (V.alloc (.cells #[.int .i64 z] 3)) ∧ GiP w5 w5.heap.size w8.heap.size V.heap.size (k + 1) (V.alloc (.cells #[.int .i64 z] 3))) := fun V z hz hV => by
          subst hz
          have hV2 : Below W7.heap.size W7 (V.alloc (.cells #[.int .i64 ((k : Int) + 1)] 3)) := hV.alloc hV.size _
          refine ⟨hls.on hV2, ⟨Blk.fresh V 3 #[.int .i64 ((k : Int) + 1)], ?_, ?_, ?_⟩⟩
          · have := hls.same.1; have := hV.size; omega
          · have := hls.cs.lt; have := hV.size; omega
          · have := hls.gtl; have := hV.size; omega
        have HGI := Lib.hid (fun V (hV : Below W7.heap.size W7 V) => (hgi.on hV).ci.cell 0)
        simp only [List.getElem?_toArray, List.getElem?_cons_zero] at HGI
        have x2 := HGI.out W7 (Below.refl _ _)
        have e3 : IntKind.i64.wrap ((k : Int) + 1) = (k : Int) + 1 := IntWalk.i64_in _ (by omega)
        clear hb hh hw hgi hls HC hci6 c6 HR hci h15
        go_wp2_with fail
        refine HLn.out.mono ?_
        rintro e _ ⟨rfl, rfl⟩
        clear HLn
        go_wp2_with fail
        refine HDn.out.mono ?_
        rintro e _ ⟨rfl, rfl⟩
        clear HDn
        go_wp2_with fail
        refine HCl.out.mono ?_
        rintro e V8 ⟨rfl, hV8⟩
        have HV8 := Lib.hid hV8
        have y3 := HGI.out V8 hV8
        clear hV8 HCl HGI x2
        have a0 := (Blk.fresh V8 3 #[.int .i64 k]).cell 0
        have a1 := (Blk.fresh V8 3 #[.int .i64 k]).free 0
        simp only [List.getElem?_toArray, List.getElem?_cons_zero] at a0
        go_wp2_with fail
        refine HK'.out _ _ (n - 1) ?_ ?_ ?_
        · omega
        · rfl
        · refine ⟨k + 1, V8.heap.size, by omega, rfl, (HEND.out V8 _ ?_ HV8.out).1, (HEND.out V8 _ ?_ HV8.out).2⟩ <;> omega
    · go_wp2_with fail
      go_ret
      exact ⟨rfl, hLS.low⟩
theorem own : ownKnob Try.prog.godebug = none := by kernel_rfl
theorem laidOut : laidOutB Try.prog = true := by kernel_rfl
theorem cells_uint8 : Try.prog.cellsOf 5 = 1 := by kernel_rfl
set_option maxRecDepth 100000 in
theorem lifted (os : Os) (started : os.Started) (H : Type) (enc : TypeId × Value → H) :
    ReturnsInHanded {} Try.checked os 3 .any (Rows.autoStepsSpec.pre6 enc Try.prog Try.f3 Rows.autoStepsRow.domain false) (Rows.autoStepsSpec.post enc Try.prog Try.f3 false true false false) := by
  refine returnsInHanded_of_change (C := Try.checked) own started (by kernel_rfl) Try.func3
    (ChangeSpec.witness6 (enc := enc) (C := Try.checked) false ⟨#[], #[.slice none 0 0, .agg #[.int .i64 0, .int .i64 0, .int .i64 0]], []⟩ 8 (by kernel_rfl) (by kernel_rfl) (by kernel_rfl) (by kernel_rfl)) ?_
  intro W base args ds gs before hval0 hW _ _
  have hval : ∀ (j : Nat) t v, Try.f3.params[j]? = some t → args[j]? = some v → Value.okWide Try.prog W .any base t v := hval0
  have hlt := hW.lt
  have hW' := hW
  obtain ⟨p, q, hA0, hV, hpq, _, _⟩ := hW
  have hA : DataW.TrodAll enc Try.prog W 0 (fun _ => true) true Try.f3.params.toList args.toList ds p := hA0
  rw [Try.params3] at hA hval
  obtain ⟨v0, vs0, d0, ds0, p0, q0, hargs, rfl, rfl, h0, r0⟩ := trodAll_cons hA
  obtain ⟨v1, vs1, d1, ds1, p1, q1, rfl, rfl, rfl, h1, r1⟩ := trodAll_cons r0
  obtain ⟨rfl, rfl, rfl⟩ := trodAll_nil r1
  obtain rfl : args = #[v0, v1] := by cases args; simp_all
  obtain ⟨rfl, rfl⟩ := trodVars_none hV
  obtain ⟨A0, cap0, zs0, rfl, hl0, hcap0, hnil0, hr0, hw0⟩ := open_nums' Try.underlying22 Try.underlying5 cells_uint8 (hval 0 22 v0 rfl rfl) h0 (fun x hx => hlt x (by rw [hpq]; simp [hx]))
  have hz0 : ByteL zs0 := fun c hc => by
    have : 0 ≤ c ∧ c ≤ 255 := by simpa [Lit.wf, IntKind.min, IntKind.max, IntKind.bits, IntKind.signed] using hw0 c hc
    omega
  obtain ⟨a1, b1, e1, rfl⟩ := open_limits (hval 1 24 v1 rfl rfl) h1
  refine (walk W A0 cap0 zs0 hcap0 hr0 hz0 a1 b1 e1).mono fun e W' ⟨he, hbl⟩ => ?_
  subst he
  exact ⟨_, rfl, law_post laidOut (by kernel_rfl) rfl (by kernel_rfl) Try.underlying4 rfl rfl rfl hW' hbl⟩

theorem over : Rows.autoStepsRow.holds Try.pinned (OpenSpec.ofChange Rows.autoStepsSpec) :=
  OpenClaim.holds_of_wide 3 Try.f3 rfl rfl rfl rfl rfl rfl rfl ⟨rfl, rfl, rfl, rfl, rfl⟩ rfl rfl rfl rfl rfl (by kernel_rfl) Try.func3 (by kernel_rfl)
    (of_decide_eq_true (by kernel_rfl)) (by unfold Func.isWrapper; first | (rw [if_pos (by decide +kernel)]; kernel_rfl) | (rw [if_neg (by decide +kernel)]; exact ⟨rfl, rfl⟩))
    (fun os started H enc _ => lifted os started H enc)

/-- The statement. -/
theorem proved : Rows.AutoStepsSaid := over
#print axioms proved
end Go.Proofs.Ytchhbcmkhbfpoaa.autoSteps
