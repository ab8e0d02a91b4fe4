/-
  PROVED: the law EncOne returns true for every two items that are of bulk at most 1048576 together, and leaves them as they were (Rows.EncOneUptoSaid). Conditions: none beside the row's own.
-/
import Derived.Test.YtlipjaopbhdbeaaKBM
import Derived.Test.YtlipjaopbhdbeaaKBG
import Derived.JoinedCond
import Derived.Deep.RegionHeld3
namespace Go.Proofs.Ytlipjaopbhdbeaa.encOne
open Go.ChangeShapes Go.WideShapes Go.ChangeAt Go.RowKit

theorem okI_mono {N N' : Nat} {t : It} (h : okI N t) (hN : N ≤ N') : okI N' t := ⟨Nat.le_trans h.1 hN, fun d p hp => ⟨(h.2 d p hp).1, (h.2 d p hp).2.1, Nat.le_trans (h.2 d p hp).2.2 hN⟩⟩
theorem exB_ok : exB.okE := by
  have ok := check_ok (N := 1048576) (by omega) exE_ok exE_check
  exact okEL_iff.1 ((It.okE_eq _).1 ok).2 exB (by simp [exE, It.l])
theorem enc_ne {x : It} (h : x.okE) : x.enc ≠ [] := fun e => by
  have h1 := (enc_pre x exB exB.enc [] h exB_ok (by rw [e]; simp)).2
  exact absurd h1 (by rw [show exB.enc = [1] from rfl]; simp)
theorem str_ne {a b : List Int} (ha : ByteL a) (hb : ByteL b) (h : a ≠ b) : strOfNums a ≠ strOfNums b := fun e => h (by rw [← sbytes_str ha, e, sbytes_str hb])
theorem ownCap {w : World} {B g n cap : Nat} {L : List Int} (h : Own w B .u8 5 (.slice (some ⟨g, 0, none⟩) n cap) L) : n ≤ cap := by
  obtain ⟨A, c, hv, h1, _⟩ := h.form
  injection hv with e1 e2 e3
  omega
set_option maxRecDepth 100000 in
theorem conv {w : World} {B g n cap : Nat} {L : List Int} (h : Own w B .u8 5 (.slice (some ⟨g, 0, none⟩) n cap) L) (hn : L.length = n) : ∀ k, (convert 28 9 (.slice (some ⟨g, 0, none⟩) n cap)).run Try.prog (w.drewN k) = .ok (.string (strOfNums L)) (w.drewN k) := fun k => by
  obtain ⟨A, c, hv, _, _, _, _, hr⟩ := h.form
  injection hv with e1 e2 e3
  subst e1
  rw [← hn]
  exact run_str (P := Try.prog) Try.underlying28 Try.underlying5 Try.underlying9 cap (hr.drewN k)
set_option maxRecDepth 100000 in
theorem convT {w : World} {B g n cap : Nat} {L : List Int} (h : Own w B .u8 5 (.slice (some ⟨g, 0, none⟩) n cap) L) (hn : L.length = n) (m : Nat) : m ≤ n → ∀ k, (convert 28 9 (.slice (some ⟨g, 0, none⟩) m cap)).run Try.prog (w.drewN k) = .ok (.string (strOfNums (L.take m))) (w.drewN k) := fun hm k => by
  obtain ⟨A, c, hv, _, _, _, _, hr⟩ := h.form
  injection hv with e1 e2 e3
  subst e1
  have hl : (L.take m).length = m := by rw [List.length_take]; omega
  have ht : Rd w w.heap.size .u8 (some ⟨g, 0, none⟩) (L.take m) := fun hp => by
    rw [hl] at hp
    obtain ⟨b, o, h1, h2, h3⟩ := hr (by omega)
    refine ⟨b, o, h1, h2, fun i hi => ?_⟩
    rw [hl] at hi
    rw [getD_take _ _ _ hi]
    exact h3 i (by omega)
  have := run_str (P := Try.prog) Try.underlying28 Try.underlying5 Try.underlying9 cap (ht.drewN k)
  rwa [hl] at this
/-- How the encodings of two items lie to each other. -/
theorem one {x y : It} (hx : x.okE) (hy : y.okE) : (sameB x.srt y.srt = true → x.srt.enc = y.srt.enc) ∧ (sameB x.srt y.srt = false → strOfNums x.srt.enc ≠ strOfNums y.srt.enc ∧ strOfNums (y.srt.enc.take x.srt.enc.length) ≠ strOfNums x.srt.enc) := by
  refine ⟨fun h => by rw [sameB_true.1 h], fun h => ?_⟩
  have hne : x.srt ≠ y.srt := fun e => by rw [sameB_true.2 e] at h; cases h
  have bx := byte_enc _ (srt_ok x hx)
  have by' := byte_enc _ (srt_ok y hy)
  refine ⟨str_ne bx by' fun e => hne (enc_inj (srt_ok x hx) (srt_ok y hy) e), str_ne (byte_take by' _) bx fun e => ?_⟩
  refine hne (enc_pre x.srt y.srt (y.srt.enc.drop x.srt.enc.length) [] (srt_ok x hx) (srt_ok y hy) ?_).1
  conv => lhs; lhs; rw [← e]
  rw [List.take_append_drop, List.append_nil]

set_option maxHeartbeats 4000000 in
set_option maxRecDepth 100000 in
theorem walk (x y : It) (A1 A2 : Option Addr) (c1 c2 : Nat) (w : World) (hx : okI 1048576 x) (hy : okI 1048576 y) (h1 : AtV w x A1 c1) (h2 : AtV w y A2 c2) :
    Calls Try.prog 3 #[vI x A1 c1, vI y A2 c2] w fun e w' => e = .returned (.bool true) ∧ Below w.heap.size w w' := by
  obtain ⟨w1, hw1, b1, b2, S⟩ := iblk2 w 25 #[.int .i64 x.k, .int .u64 x.n, .string x.s, .slice A1 x.l.length c1] #[.int .i64 y.k, .int .u64 y.n, .string y.s, .slice A2 y.l.length c2]
  obtain ⟨p0, p1, p2, p3, -⟩ := iblk b1
  obtain ⟨q0, q1, q2, q3, -⟩ := iblk b2
  have hxc := hx.1
  have hyc := hy.1
  have H1 := h1.toB
  have H2 := h2.toB
  have HA := Lib.hid (fun W => enc_awake W)
  obtain ⟨g1, hg1⟩ : ∃ r, greatB x = r := ⟨_, rfl⟩
  obtain ⟨g2, hg2⟩ : ∃ r, greatB y = r := ⟨_, rfl⟩
  have G1 := fun W (hb : Below w.heap.size w W) => ref_Great x A1 c1 w.heap.size W (by omega) hb.size (H1.keep hb)
  have G2 := fun W (hb : Below w.heap.size w W) => ref_Great y A2 c2 w.heap.size W (by omega) hb.size (H2.keep hb)
  rw [hg1] at G1
  rw [hg2] at G2
  have HG1 := Lib.hid G1
  have HG2 := Lib.hid G2
  clear G1 G2
  have carry : ∀ W, Below w1.heap.size w1 W → W.cell? ⟨w.heap.size, 0, none⟩ = some (.int .i64 x.k) ∧ W.cell? ⟨w.heap.size, 1, none⟩ = some (.int .u64 x.n) ∧ W.cell? ⟨w.heap.size, 2, none⟩ = some (.string x.s) ∧ W.cell? ⟨w.heap.size, 3, none⟩ = some (.slice A1 x.l.length c1) ∧ W.cell? ⟨w.heap.size + 1, 0, none⟩ = some (.int .i64 y.k) ∧ W.cell? ⟨w.heap.size + 1, 1, none⟩ = some (.int .u64 y.n) ∧ W.cell? ⟨w.heap.size + 1, 2, none⟩ = some (.string y.s) ∧ W.cell? ⟨w.heap.size + 1, 3, none⟩ = some (.slice A2 y.l.length c2) := fun W hb =>
    ⟨(hb.cell (p := ⟨w.heap.size, 0, none⟩) (block_lt_of_cell p0)).trans p0, (hb.cell (p := ⟨w.heap.size, 1, none⟩) (block_lt_of_cell p1)).trans p1, (hb.cell (p := ⟨w.heap.size, 2, none⟩) (block_lt_of_cell p2)).trans p2, (hb.cell (p := ⟨w.heap.size, 3, none⟩) (block_lt_of_cell p3)).trans p3, (hb.cell (p := ⟨w.heap.size + 1, 0, none⟩) (block_lt_of_cell q0)).trans q0, (hb.cell (p := ⟨w.heap.size + 1, 1, none⟩) (block_lt_of_cell q1)).trans q1, (hb.cell (p := ⟨w.heap.size + 1, 2, none⟩) (block_lt_of_cell q2)).trans q2, (hb.cell (p := ⟨w.heap.size + 1, 3, none⟩) (block_lt_of_cell q3)).trans q3⟩
  have HCY := Lib.hid carry
  have HUP := Lib.hid (fun W (hb : Below w1.heap.size w1 W) => S.trans (hb.mono S.size))
  have HS := Lib.hid S
  cases g1 with
  | true =>
    clear carry b1 b2 S H1 H2 h1 h2 hx hy hxc hyc hg1 hg2 HG2
    simp only [vI] at *
    go_enter Try.func3, Try.ntmps3
    go_wp2_with (first
        | (go_at_call 6; refine (HA.out w1).mono ?_; rintro e w2 ⟨rfl, hb2⟩; obtain ⟨d0, d1, d2, d3, d4, d5, d6, d7⟩ := HCY.out w2 hb2; have HB2 := Lib.hid hb2; clear hb2)
        | (go_at_call 7; refine (HG1.out w2 (HUP.out w2 HB2.out)).mono ?_; rintro e w3 ⟨rfl, hb3⟩; have HB3 := Lib.hid (HB2.out.trans (hb3.mono HB2.out.size)); clear hb3))
    go_ret
    exact ⟨rfl, HUP.out _ HB3.out⟩
  | false =>
  cases g2 with
  | true =>
    clear carry b1 b2 S H1 H2 h1 h2 hx hy hxc hyc hg1 hg2
    simp only [vI] at *
    go_enter Try.func3, Try.ntmps3
    go_wp2_with (first
        | (go_at_call 6; refine (HA.out w1).mono ?_; rintro e w2 ⟨rfl, hb2⟩; obtain ⟨d0, d1, d2, d3, d4, d5, d6, d7⟩ := HCY.out w2 hb2; have HB2 := Lib.hid hb2; clear hb2)
        | (go_at_call 7; refine (HG1.out w2 (HUP.out w2 HB2.out)).mono ?_; clear HG1; rintro e w3 ⟨rfl, hb3⟩; have HB3 := Lib.hid (HB2.out.trans (hb3.mono HB2.out.size)); obtain ⟨e0, e1, e2, e3, e4, e5, e6, e7⟩ := HCY.out w3 HB3.out; clear hb3)
        | (go_at_call 7; refine (HG2.out w3 (HUP.out w3 HB3.out)).mono ?_; rintro e w4 ⟨rfl, hb4⟩; have HB4 := Lib.hid (HB3.out.trans (hb4.mono HB3.out.size)); clear hb4))
    go_ret
    exact ⟨rfl, HUP.out _ HB4.out⟩
  | false =>
  have bx := great_bulk hg1
  have by' := great_bulk hg2
  have HEX := Lib.hid (fun W (hb : Below w.heap.size w W) => enc_Encode x A1 c1 w.heap.size W hx (by omega) hb.size (H1.keep hb))
  have HEY := Lib.hid (fun W (hb : Below w.heap.size w W) => enc_Encode y A2 c2 w.heap.size W hy (by omega) hb.size (H2.keep hb))
  have HSX := Lib.hid (fun (hz : checkR wrongI x = 0) W (hb : Below w.heap.size w W) => enc_Sorted x A1 c1 w.heap.size W hx (by omega) hb.size (H1.keep hb) hz)
  have HSY := Lib.hid (fun (hz : checkR wrongI y = 0) W (hb : Below w.heap.size w W) => enc_Sorted y A2 c2 w.heap.size W hy (by omega) hb.size (H2.keep hb) hz)
  have HCX := Lib.hid (fun _ : Unit => hx.1)
  clear carry b1 b2 S H1 H2 h1 h2 hx hy hxc hyc hg1 hg2 bx by'
  simp only [vI] at *
  go_enter Try.func3, Try.ntmps3
  go_wp2_with (first
        | (go_at_call 6; refine (HA.out w1).mono ?_; rintro e w2 ⟨rfl, hb2⟩; obtain ⟨d0, d1, d2, d3, d4, d5, d6, d7⟩ := HCY.out w2 hb2; have HB2 := Lib.hid hb2; clear hb2)
        | (go_at_call 7; refine (HG1.out w2 (HUP.out w2 HB2.out)).mono ?_; clear HG1; rintro e w3 ⟨rfl, hb3⟩; have HB3 := Lib.hid (HB2.out.trans (hb3.mono HB2.out.size)); obtain ⟨e0, e1, e2, e3, e4, e5, e6, e7⟩ := HCY.out w3 HB3.out; clear hb3)
        | (go_at_call 7; refine (HG2.out w3 (HUP.out w3 HB3.out)).mono ?_; rintro e w4 ⟨rfl, hb4⟩; have HB4 := Lib.hid (HB3.out.trans (hb4.mono HB3.out.size)); obtain ⟨f0, f1, f2, f3, f4, f5, f6, f7⟩ := HCY.out w4 HB4.out; clear hb4)
        | fail)
  refine (HEX.out w4 (HUP.out w4 HB4.out)).mono ?_
  rintro e w5 hp
  obtain ⟨hz, rfl, hb5⟩ | ⟨hzx, okx, va, rfl, oa, hb5⟩ := hp
  · have HB5 := Lib.hid (HB4.out.trans (hb5.mono HB4.out.size))
    obtain ⟨k0, k1, k2, k3, k4, k5, k6, k7⟩ := HCY.out w5 HB5.out
    clear hb5
    generalize checkR wrongI x = r at *
    go_wp2_with fail
    refine (HEY.out w5 (HUP.out w5 HB5.out)).mono ?_
    rintro e w6 hp
    obtain ⟨hz', rfl, hb6⟩ | ⟨_, _, vb, rfl, _, hb6⟩ := hp
    · generalize checkR wrongI y = r' at *
      have HB6 := Lib.hid (HB5.out.trans (hb6.mono HB5.out.size))
      clear hb6
      go_wp2_with fail
      go_ret
      exact ⟨rfl, HUP.out _ HB6.out⟩
    · have HB6 := Lib.hid (HB5.out.trans (hb6.mono HB5.out.size))
      clear hb6
      go_wp2_with fail
      go_ret
      exact ⟨rfl, HUP.out _ HB6.out⟩
  have HB5 := Lib.hid (HB4.out.trans (hb5.mono HB4.out.size))
  obtain ⟨k0, k1, k2, k3, k4, k5, k6, k7⟩ := HCY.out w5 HB5.out
  have HOA := Lib.hid oa
  clear oa hb5
  go_wp2_with fail
  refine (HEY.out w5 (HUP.out w5 HB5.out)).mono ?_
  rintro e w6 hp
  obtain ⟨hz', rfl, hb6⟩ | ⟨hzy, oky, vb, rfl, ob, hb6⟩ := hp
  · generalize checkR wrongI y = r' at *
    have HB6 := Lib.hid (HB5.out.trans (hb6.mono HB5.out.size))
    clear hb6
    go_wp2_with fail
    go_ret
    exact ⟨rfl, HUP.out _ HB6.out⟩
  have HB6 := Lib.hid (HB5.out.trans (hb6.mono HB5.out.size))
  have HOA := Lib.hid (HOA.out.below hb6)
  have HOB := Lib.hid ob
  have HOK := Lib.hid (And.intro okx oky)
  have H1 := Lib.hid (one okx oky)
  have nx := enc_ne (srt_ok x okx)
  have ny := enc_ne (srt_ok y oky)
  have SX := Lib.hid (HSX.out hzx)
  have SY := Lib.hid (HSY.out hzy)
  have HCS := Lib.hid (fun _ : Unit => (show x.srt.count ≤ 1099511627776 by rw [(srt_bulk x okx).2]; have := HCX.out (); omega))
  clear ob hb6 okx oky hzx hzy HSX HSY HEX HEY HCX k0 k1 k2 k3 k4 k5 k6 k7 e0 e1 e2 e3 e4 e5 e6 e7 f0 f1 f2 f3 f4 f5 f6 f7 d0 d1 d2 d3 d4 d5 d6 d7 p0 p1 p2 p3 q0 q1 q2 q3 HA HG2
  generalize x.srt = X at *
  generalize y.srt = Y at *
  obtain ⟨ga, ca, rfl⟩ := HOA.out.head (List.length_pos_iff.2 nx)
  obtain ⟨gb, cb, rfl⟩ := HOB.out.head (List.length_pos_iff.2 ny)
  have l1 : 0 < X.enc.length := List.length_pos_iff.2 nx
  have l2 : 0 < Y.enc.length := List.length_pos_iff.2 ny
  clear nx ny
  obtain ⟨n1, e1⟩ : ∃ n, X.enc.length = n := ⟨_, rfl⟩
  obtain ⟨n2, e2⟩ : ∃ n, Y.enc.length = n := ⟨_, rfl⟩
  rw [e1] at HOA l1 ⊢
  rw [e2] at HOB l2 ⊢
  have z1 : ((n1 : Int) == 0) = false := by rw [beq_eq_false_iff_ne]; omega
  have z2 : ((n2 : Int) == 0) = false := by rw [beq_eq_false_iff_ne]; omega
  have HD := Lib.hid (show Below w1.heap.size w1 w6.drew from below_drawn HB6.out)
  have cS := HCY.out w6.drew HD.out
  have HBW := HD
  go_wp2_with fail
  obtain ⟨r, hr⟩ : ∃ r, sameB X Y = r := ⟨_, rfl⟩
  have hsm := fun (W : World) (Ax Ay : Option Addr) (cx cy : Nat) (hx7 : AtV W X Ax cx) (hy7 : AtV W Y Ay cy) => ref_Same X.count X Y Ax Ay cx cy W (Nat.le_refl _) (HCS.out ()) hx7 hy7
  rw [hr] at H1 hsm
  simp only [vI] at hsm
  have HSM := Lib.hid hsm
  have HOA := Lib.hid (HOA.out.drew)
  have HOB := Lib.hid (HOB.out.drew)
  have HE1 := Lib.hid e1
  have HE2 := Lib.hid e2
  clear hsm hr e1 e2 HB2 HB3 HB4 HB5 HB6 HD hw1
  go_region_held3 (fun W => W.cell? ⟨w.heap.size, 0, none⟩ = some (.int .i64 x.k) ∧ W.cell? ⟨w.heap.size, 1, none⟩ = some (.int .u64 x.n) ∧ W.cell? ⟨w.heap.size, 2, none⟩ = some (.string x.s) ∧ W.cell? ⟨w.heap.size, 3, none⟩ = some (.slice A1 x.l.length c1) ∧ W.cell? ⟨w.heap.size + 1, 0, none⟩ = some (.int .i64 y.k) ∧ W.cell? ⟨w.heap.size + 1, 1, none⟩ = some (.int .u64 y.n) ∧ W.cell? ⟨w.heap.size + 1, 2, none⟩ = some (.string y.s) ∧ W.cell? ⟨w.heap.size + 1, 3, none⟩ = some (.slice A2 y.l.length c2)) (first | go_keep | exact cS) ((first
    | (go_at_call 10; refine (SX.out _ (HUP.out _ HBW.out)).mono ?_; rintro e7 w7 ⟨Ax, cx, rfl, hat, hb7⟩; have HX7 := Lib.hid hat.toV; (try have HY7 := Lib.hid (HY7.out.on hb7)); have HOA := Lib.hid (HOA.out.below hb7); have HOB := Lib.hid (HOB.out.below hb7); have HBW := Lib.hid (HBW.out.trans (hb7.mono HBW.out.size)); have cS := HCY.out w7 HBW.out; clear hat hb7)
    | (go_at_call 10; refine (SY.out _ (HUP.out _ HBW.out)).mono ?_; rintro e7 w7 ⟨Ay, cy, rfl, hat, hb7⟩; have HY7 := Lib.hid hat.toV; (try have HX7 := Lib.hid (HX7.out.on hb7)); have HOA := Lib.hid (HOA.out.below hb7); have HOB := Lib.hid (HOB.out.below hb7); have HBW := Lib.hid (HBW.out.trans (hb7.mono HBW.out.size)); have cS := HCY.out w7 HBW.out; clear hat hb7)
    | (go_at_call 9; refine (HSM.out _ _ _ _ _ HX7.out HY7.out).mono ?_; rintro e7 w7 ⟨rfl, hb7⟩; have HOA := Lib.hid (HOA.out.below hb7); have HOB := Lib.hid (HOB.out.below hb7); have HBW := Lib.hid (HBW.out.trans (hb7.mono HBW.out.size)); have cS := HCY.out w7 HBW.out; clear hb7)))
  all_goals
    have ra := conv HOA.out HE1.out
    have rb := conv HOB.out HE2.out
    have rc := convT HOB.out HE2.out n1
    have rs := fun (hn : n1 ≤ n2) w => run_less (P := Try.prog) (sz := 1) Try.underlying28 (by kernel_rfl) w gb n2 cb n1 n1 rfl (Nat.le_trans hn (ownCap HOB.out))
    obtain ⟨h1, h2⟩ := H1.out
    rw [HE1.out] at h2
    have HU := Lib.hid (HUP.out w7 HBW.out)
    cases r with
    | true =>
      have he := h1 rfl
      have hn : n1 = n2 := by rw [← HE1.out, ← HE2.out, he]
      rw [hn] at rc rs
      replace rc := rc (Nat.le_refl _)
      replace rs := rs (Nat.le_refl _)
      have e3 : Y.enc.take n2 = Y.enc := List.take_of_length_le (by rw [HE2.out]; exact Nat.le_refl _)
      rw [e3] at rc
      rw [he] at ra
      generalize strOfNums Y.enc = S1 at *
      subst hn
      clear h1 h2 he e3 cS H1 HCY HUP HSM HOA HOB
      go_wp2_with fail
      go_quiet (fail)
      go_wp2_with fail
      go_ret
      exact ⟨rfl, below_drawnN HU.out _⟩
    | false =>
      obtain ⟨n3, n4⟩ := h2 rfl
      by_cases hn : n1 ≤ n2
      · have rc := rc hn
        have rs := rs hn
        have hnI : (n1 : Int) ≤ n2 := by omega
        generalize strOfNums X.enc = S1 at *
        generalize strOfNums Y.enc = S2 at *
        generalize strOfNums (Y.enc.take n1) = S3 at *
        have b3 : (S1.toList == S2.toList) = false := beq_eq_false_iff_ne.2 fun e => n3 (text_eq e)
        have b4 : (S3.toList == S1.toList) = false := beq_eq_false_iff_ne.2 fun e => n4 (text_eq e)
        clear h1 h2 cS H1 HCY HUP HSM HOA HOB
        go_wp2_with fail
        go_quiet (fail)
        go_wp2_with fail
        go_ret
        exact ⟨rfl, below_drawnN HU.out _⟩
      · have hnI : ¬ (n1 : Int) ≤ n2 := by omega
        generalize strOfNums X.enc = S1 at *
        generalize strOfNums Y.enc = S2 at *
        have b3 : (S1.toList == S2.toList) = false := beq_eq_false_iff_ne.2 fun e => n3 (text_eq e)
        clear h1 h2 cS H1 HCY HUP HSM HOA HOB rc rs n4
        go_wp2_with fail
        go_quiet (fail)
        go_wp2_with fail
        go_ret
        exact ⟨rfl, below_drawnN HU.out _⟩

theorem own : ownKnob Try.prog.godebug = none := by kernel_rfl
theorem laidOut : laidOutB Try.prog = true := by kernel_rfl
set_option maxRecDepth 100000 in
theorem contract (H : Type) (enc : TypeId × Value → H) (W : World) (base : Nat) (args : Array Value) (ds gs : List (DataW H)) (before : List MemPlace) (hk : Rows.uptoSmall H (ds ++ gs) = true)
    (hval : ∀ (j : Nat) t v, Try.f3.params[j]? = some t → args[j]? = some v → Value.okWide Try.prog W .any base t v)
    (hW : DataW.Whole enc Try.prog Try.f3.params.toList Rows.encOneSpec.vars false W args.toList ds gs before) :
    Calls Try.prog 3 args W fun e W' => ∃ v, e = .returned v ∧ Rows.encOneSpec.post enc Try.prog Try.f3 false true false false W args v W' := by
  have hW' := hW
  obtain ⟨p, q, hA0, hV, hpq, _, _⟩ := hW
  have hA : DataW.TrodAll enc Try.prog W 0 (fun _ => true) true Try.f3.params.toList args.toList ds p := hA0
  rw [Try.params3] at hA hval
  obtain ⟨v0, vs0, d0, ds0, p0, q0, hargs, rfl, rfl, h0, r0⟩ := trodAll_cons hA
  obtain ⟨v1, vs1, d1, ds1, p1, q1, rfl, rfl, rfl, h1, r1⟩ := trodAll_cons r0
  obtain ⟨rfl, rfl, rfl⟩ := trodAll_nil r1
  obtain rfl : args = #[v0, v1] := by cases args; simp_all
  obtain ⟨rfl, rfl⟩ := trodVars_none hV
  have hs : Rows.uptoBulk d0 + (Rows.uptoBulk d1 + 0) ≤ 1048576 := of_decide_eq_true hk
  obtain ⟨x, A1, c1, rfl, hx1, hx2⟩ := open_item (hval 0 25 v0 rfl rfl) h0
  obtain ⟨y, A2, c2, rfl, hy1, hy2⟩ := open_item (hval 1 25 v1 rfl rfl) h1
  refine (walk x y A1 A2 c1 c2 W (okI_mono hx2 (by omega)) (okI_mono hy2 (by omega)) hx1 hy1).mono fun e W' ⟨he, hbl⟩ => ?_
  subst he
  exact ⟨_, rfl, law_post laidOut (by kernel_rfl) rfl (by kernel_rfl) Try.underlying4 rfl rfl rfl hW' hbl⟩
set_option maxRecDepth 100000 in
theorem lifted (os : Os) (started : os.Started) (H : Type) (enc : TypeId × Value → H) (F : Stop.Interp) :
    ReturnsInHanded {} Try.checked os 3 .any ((Rows.OpenSpec.upto Rows.encOneSpec).pre6 enc Try.prog Try.f3 Rows.encOneUptoRow.domain false) (((Rows.OpenSpec.upto Rows.encOneSpec).at F).post enc Try.prog Try.f3 false true false false) := by
  refine returnsInHanded_of_cond (C := Try.checked) (s := Rows.OpenSpec.upto Rows.encOneSpec) (k := Rows.uptoSmall) rfl own started (by kernel_rfl) Try.func3
    (OpenSpec.witness (enc := enc) (C := Try.checked) (s := Rows.OpenSpec.upto Rows.encOneSpec) (k := Rows.uptoSmall) rfl false ⟨#[], #[.agg #[.int .i64 0, .int .u64 0, .string ⟨#[]⟩, .slice none 0 0], .agg #[.int .i64 0, .int .u64 0, .string ⟨#[]⟩, .slice none 0 0]], []⟩ 8 (by kernel_rfl) (by kernel_rfl) (by kernel_rfl)
      (x := ([.agg [.lit (.int .i64 0), .lit (.int .u64 0), .lit (.string []), .nil], .agg [.lit (.int .i64 0), .lit (.int .u64 0), .lit (.string []), .nil]], [], [])) (by kernel_rfl) rfl (by kernel_rfl)) ?_
  intro W base args ds gs before hval hW _ hk _
  exact contract H enc W base args ds gs before hk hval hW
theorem over : Rows.encOneUptoRow.holds Try.pinned (Rows.OpenSpec.upto Rows.encOneSpec) :=
  OpenClaim.holds_of_cond 3 Try.f3 rfl rfl rfl rfl rfl rfl rfl ⟨rfl, rfl, rfl, rfl, rfl⟩ rfl rfl rfl rfl rfl (by kernel_rfl) Try.func3 (by kernel_rfl)
    (of_decide_eq_true (by kernel_rfl)) (by unfold Func.isWrapper; first | (rw [if_pos (by decide +kernel)]; kernel_rfl) | (rw [if_neg (by decide +kernel)]; exact ⟨rfl, rfl⟩))
    (fun os started H enc _ F => lifted os started H enc F)

/-- The statement. -/
theorem proved : Rows.EncOneUptoSaid := over
#print axioms proved
end Go.Proofs.Ytlipjaopbhdbeaa.encOne
