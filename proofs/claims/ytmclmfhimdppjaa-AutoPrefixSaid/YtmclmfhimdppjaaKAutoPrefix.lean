/-
  PROVED: the law AutoPrefix returns true for every two slices of bytes and all limits, and leaves its arguments as they were (Rows.AutoPrefixSaid). Conditions: none beside the row's own.
-/
import Derived.Test.YtmclmfhimdppjaaKBM
import Derived.Test.YtmclmfhimdppjaaKAJ
namespace Go.Proofs.Ytmclmfhimdppjaa.autoPrefix
open Go.ChangeShapes Go.WideShapes Go.ChangeAt Go.RowKit

/-- What the law asks of the two verdicts. -/
theorem two (d k s : Int) (L M : List Int) :
    ((wva d k s L).1 = 0 ∧ M.length = 0 ∧ wva d k s (L ++ M) = wva d k s L) ∨
    ((wva d k s L).1 = 0 ∧ 0 < M.length ∧ (wva d k s (L ++ M)).1 = 2 ∧ (wva d k s (L ++ M)).2 = L.length) ∨
    ((wva d k s L).1 = 0 ∧ 0 < M.length ∧ (wva d k s (L ++ M)).1 = 1 ∧ (wva d k s (L ++ M)).2 = L.length) ∨
    ((wva d k s L).1 = 9 ∧ (wva d k s (L ++ M)).1 = 0) ∨
    ((wva d k s L).1 = 9 ∧ (wva d k s (L ++ M)).1 ≠ 0 ∧ (L.length : Int) ≤ (wva d k s (L ++ M)).2) ∨
    ((wva d k s L).1 ≠ 0 ∧ (wva d k s L).1 ≠ 9 ∧ wva d k s (L ++ M) = wva d k s L) := by
  cases hr : rightL d k s with
  | false =>
    have e : ∀ l, wva d k s l = (15, 0) := fun l => by unfold wva; rw [if_neg (by rw [hr]; decide)]
    right; right; right; right; right
    rw [e, e]
    exact ⟨by decide, by decide, rfl⟩
  | true =>
    have e : ∀ l, wva d k s l = wv d.toNat k.toNat s l := fun l => by unfold wva; rw [if_pos hr]
    rw [e, e]
    unfold wv
    dsimp only
    have ha := svrd_append (D := d.toNat) (K := k.toNat) (S := s.toNat) L M 0 aq0
    have hg := svrd_range (D := d.toNat) (K := k.toNat) (S := s.toNat) L 0 aq0
    obtain ⟨h1, h2, h3⟩ := ha
    have hnil : M = [] → svrd d.toNat k.toNat s.toNat 0 aq0 (L ++ M) = svrd d.toNat k.toNat s.toNat 0 aq0 L := fun h => by rw [h, List.append_nil]
    generalize svrd d.toNat k.toNat s.toNat 0 aq0 (L ++ M) = u at *
    rcases hg with hv | hv | hv
    · cases M with
      | nil =>
        left
        rw [hnil rfl, hv]
        exact ⟨rfl, rfl, rfl⟩
      | cons c r =>
        right
        rcases h2 (by rw [hv]) (by simp) with hu | hu
        · right; left; rw [hv, hu]; simp
        · left; rw [hv, hu]; simp
    · right; right; right
      rcases h3 (by rw [hv]) with hu | hu
      · left; rw [hv, hu]; simp
      · by_cases h0 : u.1 = 0
        · left; rw [hv]; exact ⟨rfl, h0⟩
        · right; left; rw [hv]; exact ⟨rfl, h0, by omega⟩
    · right; right; right; right; right
      rw [h1 ⟨hv.1, hv.2.1⟩]
      exact ⟨by omega, by omega, rfl⟩
/-- The slice that is begun, in a region that draws. -/
structure Ap (w7 W : World) (g0 : Nat) : Prop where
  own : W.ownsRow w7.heap.size 5 1 (.slice (some ⟨g0, 0, none⟩) 0 0) 0 []
  low : Below w7.heap.size w7 W
def ZV : Array Value := #[.int .i64 0, .int .i64 0]
theorem ap1 (w7 : World) : Ap w7 (w7.alloc (.cells #[] 5)).drew w7.heap.size := ⟨oc_new w7 _ 5 1 0 #[] rfl (Nat.le_refl _) (by decide), below_drawn (below_alloc _ _)⟩
theorem ap2 (w7 : World) : Ap w7 ((w7.alloc (.cells #[] 5)).alloc (.cells #[.int .i64 0, .int .i64 0] 51)).drew w7.heap.size ∧ Blk ((w7.alloc (.cells #[] 5)).alloc (.cells #[.int .i64 0, .int .i64 0] 51)).drew (w7.heap.size + 1) 51 #[.int .i64 0, .int .i64 0] := by
  refine ⟨⟨oc_alloc (oc_new w7 _ 5 1 0 #[] rfl (Nat.le_refl _) (by decide)) _, below_drawn ((below_alloc _ _).alloc (by simp) _)⟩, ?_⟩
  have := Blk.fresh (w7.alloc (.cells #[] 5)) 51 #[.int .i64 0, .int .i64 0]
  rw [World.size_alloc] at this
  exact this
theorem ap3 (w7 : World) : Ap w7 ((w7.alloc (.cells #[.int .i64 0, .int .i64 0] 51)).alloc (.cells #[] 5)).drew (w7.heap.size + 1) ∧ Blk ((w7.alloc (.cells #[.int .i64 0, .int .i64 0] 51)).alloc (.cells #[] 5)).drew w7.heap.size 51 #[.int .i64 0, .int .i64 0] := by
  refine ⟨⟨?_, below_drawn ((below_alloc _ _).alloc (by simp) _)⟩, (Blk.fresh w7 51 #[.int .i64 0, .int .i64 0]).alloc _⟩
  have := oc_new (w7.alloc (.cells #[.int .i64 0, .int .i64 0] 51)) w7.heap.size 5 1 0 #[] rfl (by simp) (by decide)
  rw [World.size_alloc] at this
  exact this
/-- A block of a verdict, laid in the region. -/
structure Vb (B : Nat) (W : World) (g : Nat) : Prop where
  blk : Blk W g 51 #[.int .i64 0, .int .i64 0]
  ge : B ≤ g
theorem Vb.grown {B n : Nat} {W W' : World} {g : Nat} {v : Value} {cs : List Value} (h : Vb B W g) (ho : W.ownsRow B 5 1 v n cs) (hg : W.grownBy W' v.ownBlock) : Vb B W' g := ⟨blk_grown h.blk ho (by decide) hg, h.ge⟩
theorem Vb.new {B : Nat} {W : World} (h : B ≤ W.heap.size) : Vb B (W.alloc (.cells #[.int .i64 0, .int .i64 0] 51)) W.heap.size := ⟨Blk.fresh _ _ _, h⟩
theorem Vb.on {B : Nat} {W W' : World} {g : Nat} (h : Vb B W g) (hb : Below W.heap.size W W') : Vb B W' g := ⟨h.blk.on hb, h.ge⟩
theorem bytes_one (l : List Int) : ∀ u ∈ l.map (Value.int .u8), u.oneCell' = true := fun u hu => by
  obtain ⟨x, _, rfl⟩ := List.mem_map.1 hu
  rfl
def kSix : List Bool := [false, false, false, false, false, false, false, false, true, false, false, false, false, false, false, false, false, false, false, false, false, false, false, true, true, true, true, true, true, true]
set_option maxHeartbeats 4000000 in
set_option maxRecDepth 100000 in
theorem walk (w : World) (A0 : Option Addr) (cap0 : Nat) (L : List Int) (_hcap0 : L.length ≤ cap0) (hr0 : Rd w w.heap.size .u8 A0 L) (hz0 : ByteL L) (hn0 : A0 = none → cap0 = 0) (A1 : Option Addr) (cap1 : Nat) (M : List Int) (_hcap1 : M.length ≤ cap1) (hr1 : Rd w w.heap.size .u8 A1 M) (hz1 : ByteL M) (hn1 : A1 = none → cap1 = 0) (d k s : Int) :
    Calls Try.prog 4 #[.slice A0 L.length cap0, .slice A1 M.length cap1, vL d k s] w fun e w' => e = .returned (.bool true) ∧ Below w.heap.size w w' := by
  obtain ⟨w1, hw1, b1, S1⟩ := iblk1 w 24 #[.int .i64 d, .int .i64 k, .int .i64 s]
  obtain ⟨p0, p1, p2⟩ := lblk b1
  have HA := Lib.hid (auto_awake w1)
  have HS := Lib.hid S1
  have HL := Lib.hid (fun v (hb : Below w1.heap.size w1 v) => lblk (b1.on hb))
  unfold vL
  by_cases hbig : L.length ≤ 300 ∧ M.length ≤ 300
  · obtain ⟨hb0, hb1⟩ := hbig
    have i0 : ¬ (300 : Int) < (L.length : Int) := by omega
    have i1 : ¬ (300 : Int) < (M.length : Int) := by omega
    have hlm : (L ++ M).length ≤ 600 := by simp; omega
    have HW1 := Lib.hid (fun v (hb : Below w1.heap.size w1 v) => auto_WholeA v A0 cap0 L d k s ((hr0.below (S1.trans (hb.mono S1.size))).more (by have := S1.size; have := hb.size; omega)) hz0 (by omega))
    have HW2 := Lib.hid (fun v A cap (hr : Rd v v.heap.size .u8 A (L ++ M)) => auto_WholeA v A cap (L ++ M) d k s hr (byte_append hz0 hz1) (by omega))
    have H2 := Lib.hid (two d k s L M)
    obtain ⟨e1, q1, hv1⟩ : ∃ e1 q1, wva d k s L = (e1, q1) := ⟨_, _, rfl⟩
    obtain ⟨e2, q2, hv2⟩ : ∃ e2 q2, wva d k s (L ++ M) = (e2, q2) := ⟨_, _, rfl⟩
    rw [hv1] at HW1
    rw [hv2] at HW2
    rw [hv1, hv2] at H2
    clear hv1 hv2
    dsimp only at HW1 HW2 H2
    have HR0 := Lib.hid (fun v (hb : Below w1.heap.size w1 v) => ((hr0.below (S1.trans (hb.mono S1.size))).more (show w.heap.size ≤ v.heap.size by have := S1.size; have := hb.size; omega)).rdc hn0)
    have HR1 := Lib.hid (fun v (hb : Below w1.heap.size w1 v) => ((hr1.below (S1.trans (hb.mono S1.size))).more (show w.heap.size ≤ v.heap.size by have := S1.size; have := hb.size; omega)).rdc hn1)
    have HLM := Lib.hid hlm
    have HB1 := Lib.hid b1
    clear hr0 hr1 hz0 hz1 S1 b1 hn0 hn1 hlm
    go_enter Try.func4, Try.ntmps4
    go_wp2_with fail
    refine HA.out.mono ?_
    rintro e w2 ⟨rfl, hb2⟩
    obtain ⟨l0, l1, l2⟩ := HL.out w2 hb2
    have HC1 := Lib.hid (HW1.out w2 hb2)
    have HB2 := Lib.hid hb2
    clear hb2 HA HW1 p0 p1 p2
    go_wp2_with fail
    refine HC1.out.mono ?_
    rintro e w3 ⟨rfl, hb3⟩
    have HB3 := Lib.hid (HB2.out.trans (hb3.mono HB2.out.size))
    clear hb3 HB2 HC1 l0 l1 l2
    have HZ := vd_zero
    unfold vcells at HZ
    dsimp only at HZ
    go_wp2_with fail
    have b7 : Blk (w3.alloc (.cells #[.int .i64 e1, .int .i64 q1] 51)) w3.heap.size 51 #[.int .i64 e1, .int .i64 q1] := Blk.fresh _ _ _
    have HB7 := Lib.hid (HB3.out.trans ((below_alloc w3 (.cells #[.int .i64 e1, .int .i64 q1] 51)).mono HB3.out.size))
    have H7 := Lib.hid b7
    have HG7 := Lib.hid b7.lt
    generalize w3.alloc (.cells #[.int .i64 e1, .int .i64 q1] 51) = w7 at *
    generalize w3.heap.size = g7 at *
    clear b7 HB3
    refine wp_cut_mask kSix (fun t W => ∃ g8, t 8 = .pointer (some ⟨g8, 0, none⟩) ∧ Blk W g8 51 #[.int .i64 e2, .int .i64 q2] ∧ Blk W g7 51 #[.int .i64 e1, .int .i64 q1] ∧ Below w1.heap.size w1 W) ?_ ?_
    · intro K' HK'
      have HR0' := Lib.hid (fun W (hb : Below w7.heap.size w7 W) => HR0.out W (HB7.out.trans (hb.mono HB7.out.size)))
      have HR1' := Lib.hid (fun W (hb : Below w7.heap.size w7 W) => HR1.out W (HB7.out.trans (hb.mono HB7.out.size)))
      have HLw := Lib.hid (fun W (hb : Below w7.heap.size w7 W) => HL.out W (HB7.out.trans (hb.mono HB7.out.size)))
      have HWw : Hid (∀ W v, Below w7.heap.size w7 W → W.ownsRow w7.heap.size 5 1 v (0 + (L.map (Value.int .u8)).length + (M.map (Value.int .u8)).length) ([] ++ L.map (Value.int .u8) ++ M.map (Value.int .u8)) → Calls Try.prog 16 #[v, .agg #[.int .i64 d, .int .i64 k, .int .i64 s]] W fun e w' => e = .returned (.agg #[.int .i64 e2, .int .i64 q2]) ∧ Below W.heap.size W w') := fun W v hb ho => by
        rw [List.nil_append, ← List.map_append] at ho
        obtain ⟨A, cap, rfl, hr⟩ := rd_owned ho (by simp)
        exact HW2.out W A cap hr
      have hone0 := bytes_one L
      have hone1 := bytes_one M
      have hl0 : (L.map (Value.int .u8)).length ≤ 300 := by rw [List.length_map]; exact hb0
      have hl1 : (M.map (Value.int .u8)).length ≤ 300 := by rw [List.length_map]; exact hb1
      have I1 := Lib.hid (ap1 w7)
      have I2 := Lib.hid (ap2 w7)
      have I3 := Lib.hid (ap3 w7)
      obtain ⟨l00, l01, l02⟩ := HLw.out w7 (Below.refl _ _)
      obtain ⟨l10, l11, l12⟩ := HLw.out (w7.alloc (.cells #[] 5)) (below_alloc _ _)
      obtain ⟨l20, l21, l22⟩ := HLw.out (w7.alloc (.cells #[.int .i64 0, .int .i64 0] 51)) (below_alloc _ _)
      obtain ⟨l30, l31, l32⟩ := HLw.out ((w7.alloc (.cells #[] 5)).alloc (.cells #[.int .i64 0, .int .i64 0] 51)) ((below_alloc _ _).alloc (by simp) _)
      obtain ⟨l40, l41, l42⟩ := HLw.out ((w7.alloc (.cells #[.int .i64 0, .int .i64 0] 51)).alloc (.cells #[] 5)) ((below_alloc _ _).alloc (by simp) _)
      clear HZ hw1 HR0 HR1 HL HW2
      go_region_law ((first
        | (refine step_append_row (t := 22) (e := 5) (bytes := 1) (z := .int .u8 0) (B := w7.heap.size) (n := 0) (cs := []) (xs := L.map (Value.int .u8)) rfl rfl rfl rfl (by kernel_rfl) (by kernel_rfl) rfl (by decide) (by first | exact I1.out.own | exact I2.out.1.own | exact I3.out.1.own) (by first | exact HR0'.out _ I1.out.low | exact HR0'.out _ I2.out.1.low | exact HR0'.out _ I3.out.1.low) hone0 (by omega) (by first | exact I1.out.low.size | exact I2.out.1.low.size | exact I3.out.1.low.size) ?_; intro v1 W1 h1 h2 h3; have HV1 := Lib.hid h1; have HL1 := Lib.hid (show Below w7.heap.size w7 W1 by first | exact I1.out.low.trans h2 | exact I2.out.1.low.trans h2 | exact I3.out.1.low.trans h2); (first | have HG1 := Lib.hid ((Vb.mk I2.out.2 (Nat.le_succ _)).grown I2.out.1.own h3) | have HG1 := Lib.hid ((Vb.mk I3.out.2 (Nat.le_refl _)).grown I3.out.1.own h3) | skip); obtain ⟨m00, m01, m02⟩ := HLw.out W1 HL1.out; obtain ⟨m10, m11, m12⟩ := HLw.out (W1.alloc (.cells #[.int .i64 0, .int .i64 0] 51)) (HL1.out.alloc HL1.out.size _); clear h1 h2 h3)
        | (refine step_append_row (t := 22) (e := 5) (bytes := 1) (z := .int .u8 0) (B := w7.heap.size) (n := 0 + (L.map (Value.int .u8)).length) (cs := [] ++ L.map (Value.int .u8)) (xs := M.map (Value.int .u8)) rfl rfl rfl rfl (by kernel_rfl) (by kernel_rfl) rfl (by decide) (by first | exact HV1.out | exact oc_alloc HV1.out _) (by first | exact HR1'.out _ HL1.out | exact HR1'.out _ (HL1.out.alloc HL1.out.size _)) hone1 (by omega) (by first | exact HL1.out.size | exact (HL1.out.alloc HL1.out.size _).size) ?_; intro v2 W2 h1 h2 h3; have HV2 := Lib.hid h1; have HL2 := Lib.hid (show Below w7.heap.size w7 W2 by first | exact HL1.out.trans h2 | exact (HL1.out.alloc HL1.out.size _).trans h2); (first | have HG2 := Lib.hid (HG1.out.grown HV1.out h3) | have HG2 := Lib.hid ((Vb.new HL1.out.size).grown (oc_alloc HV1.out _) h3) | skip); obtain ⟨n00, n01, n02⟩ := HLw.out W2 HL2.out; obtain ⟨n10, n11, n12⟩ := HLw.out (W2.alloc (.cells #[.int .i64 0, .int .i64 0] 51)) (HL2.out.alloc HL2.out.size _); clear h1 h2 h3)
        | (go_simp; go_at_call 16; refine (HWw.out _ _ (by first | exact HL2.out | exact HL2.out.alloc HL2.out.size _) (by first | exact HV2.out | exact oc_alloc HV2.out _)).mono ?_; rintro e5 w5 ⟨rfl, hb5⟩; have HL5 := Lib.hid (show Below w7.heap.size w7 w5 by first | exact HL2.out.trans (hb5.mono HL2.out.size) | exact (HL2.out.alloc HL2.out.size _).trans (hb5.mono (HL2.out.alloc HL2.out.size _).size)); (first | (have HG5 := Lib.hid (HG2.out.on hb5)) | (have HG5 := Lib.hid ((Vb.new HL2.out.size).on hb5)) | skip); (first | (have c80 := HG5.out.blk.cell 0; have c81 := HG5.out.blk.cell 1; have f80 := HG5.out.blk.free 0; have f81 := HG5.out.blk.free 1; simp only [List.getElem?_toArray, List.getElem?_cons_zero, List.getElem?_cons_succ] at c80 c81) | skip); clear hb5)
        | fail))
      all_goals
        have k7 := H7.out.on HL5.out
        have hge := HL5.out.size
        have hgl := HG7.out
        have hsz1 := HB7.out.size
        have hb5' := HB7.out.trans (HL5.out.mono HB7.out.size)
        refine HK'.out _ _ rfl ⟨_, rfl, ?_, ?_, ?_⟩
        · first | exact (HG5.out.blk.put 0 _).put 1 _ | exact Blk.fresh _ _ _
        · first | exact (k7.far (by have := HG5.out.ge; dsimp only; omega) _).far (by have := HG5.out.ge; dsimp only; omega) _ | exact k7.alloc _
        · first | exact (hb5'.setCell (by have := HG5.out.ge; dsimp only; omega) _).setCell (by have := HG5.out.ge; dsimp only; omega) _ | exact hb5'.alloc (by omega) _
    · intro t W9 hR
      obtain ⟨g8, e8, k8, k7, L9⟩ := hR
      dsimp only [mask, kSix, Nat.reduceAdd]
      rw [e8]
      have hS9 := Lib.hid (HS.out.trans (L9.mono HS.out.size))
      have HC : Hid (∀ W, Below W9.heap.size W9 W → W.cell? ⟨g8, 0, none⟩ = some (.int .i64 e2) ∧ W.cell? ⟨g8, 1, none⟩ = some (.int .i64 q2) ∧ W.cell? ⟨g7, 0, none⟩ = some (.int .i64 e1) ∧ W.cell? ⟨g7, 1, none⟩ = some (.int .i64 q1)) := fun W hb => ⟨(k8.on hb).cell 0, (k8.on hb).cell 1, (k7.on hb).cell 0, (k7.on hb).cell 1⟩
      obtain ⟨v80, v81, v70, v71⟩ := HC.out W9 (Below.refl _ _)
      have HH2 := H2.out
      clear e8 k8 k7 L9 H7 HG7 HB7 HR0 HR1 HL HW2 HZ HB1 HLM hw1 hb0 hb1 H2
      generalize hMN : (M.length : Int) = N1 at *
      rcases HH2 with ⟨rfl, hm, hu⟩ | ⟨rfl, hm, rfl, rfl⟩ | ⟨rfl, hm, rfl, rfl⟩ | ⟨rfl, rfl⟩ | ⟨rfl, hn, hq⟩ | ⟨hn0, hn9, hu⟩
      · obtain ⟨rfl, rfl⟩ : e2 = 0 ∧ q2 = q1 := by injection hu with h1 h2; exact ⟨h1, h2⟩
        have hm' : (M.length : Int) = 0 := by omega
        clear HC hu
        go_wp2_with fail
        go_ret
        exact ⟨by simp, hS9.out⟩
      · have hm' : (0 : Int) < (M.length : Int) := by omega
        clear HC
        go_wp2_with fail
        go_ret
        exact ⟨by simp, hS9.out⟩
      · have hm' : (0 : Int) < (M.length : Int) := by omega
        clear HC
        go_wp2_with fail
        go_ret
        exact ⟨by simp, hS9.out⟩
      · go_wp2_with (first
          | (go_at_call 11; refine (auto_Step_nil _ _ _).mono ?_; rintro e w' ⟨rfl, rfl⟩)
          | (go_at_call 15; refine (auto_Close_nil _).mono ?_; rintro e w10 ⟨rfl, hb10⟩; obtain ⟨x80, x81, x70, x71⟩ := HC.out w10 hb10; have HT10 := Lib.hid (hS9.out.trans (hb10.mono hS9.out.size)); clear hb10)
          | (go_at_call 14; refine (auto_Done_nil _).mono ?_; rintro e w' ⟨rfl, rfl⟩)
          | (go_at_call 13; refine (auto_Len_nil _).mono ?_; rintro e w' ⟨rfl, rfl⟩)
          | (go_at_call 10; refine (auto_Cap_nil _).mono ?_; rintro e w' ⟨rfl, rfl⟩))
        go_ret
        exact ⟨by simp, HT10.out⟩
      · go_wp2_with (first
          | (go_at_call 11; refine (auto_Step_nil _ _ _).mono ?_; rintro e w' ⟨rfl, rfl⟩)
          | (go_at_call 15; refine (auto_Close_nil _).mono ?_; rintro e w10 ⟨rfl, hb10⟩; obtain ⟨x80, x81, x70, x71⟩ := HC.out w10 hb10; have HT10 := Lib.hid (hS9.out.trans (hb10.mono hS9.out.size)); clear hb10)
          | (go_at_call 14; refine (auto_Done_nil _).mono ?_; rintro e w' ⟨rfl, rfl⟩)
          | (go_at_call 13; refine (auto_Len_nil _).mono ?_; rintro e w' ⟨rfl, rfl⟩)
          | (go_at_call 10; refine (auto_Cap_nil _).mono ?_; rintro e w' ⟨rfl, rfl⟩))
        go_ret
        exact ⟨by simp, HT10.out⟩
      · obtain ⟨rfl, rfl⟩ : e2 = e1 ∧ q2 = q1 := by injection hu with h1 h2; exact ⟨h1, h2⟩
        clear hu
        go_wp2_with (first
          | (go_at_call 11; refine (auto_Step_nil _ _ _).mono ?_; rintro e w' ⟨rfl, rfl⟩)
          | (go_at_call 15; refine (auto_Close_nil _).mono ?_; rintro e w10 ⟨rfl, hb10⟩; obtain ⟨x80, x81, x70, x71⟩ := HC.out w10 hb10; have HT10 := Lib.hid (hS9.out.trans (hb10.mono hS9.out.size)); clear hb10)
          | (go_at_call 14; refine (auto_Done_nil _).mono ?_; rintro e w' ⟨rfl, rfl⟩)
          | (go_at_call 13; refine (auto_Len_nil _).mono ?_; rintro e w' ⟨rfl, rfl⟩)
          | (go_at_call 10; refine (auto_Cap_nil _).mono ?_; rintro e w' ⟨rfl, rfl⟩))
        go_ret
        exact ⟨by simp, HT10.out⟩
  · clear hr0 hr1 hz0 hz1 S1 b1
    by_cases h0 : (300 : Int) < (L.length : Int)
    · clear hbig
      go_enter Try.func4, Try.ntmps4
      go_wp2_with fail
      refine HA.out.mono ?_
      rintro e w2 ⟨rfl, hb2⟩
      have HB2 := Lib.hid (HS.out.trans (hb2.mono HS.out.size))
      clear hb2 HA
      go_wp2_with fail
      go_ret
      exact ⟨rfl, HB2.out⟩
    · have h1 : (300 : Int) < (M.length : Int) := by omega
      clear hbig
      go_enter Try.func4, Try.ntmps4
      go_wp2_with fail
      refine HA.out.mono ?_
      rintro e w2 ⟨rfl, hb2⟩
      have HB2 := Lib.hid (HS.out.trans (hb2.mono HS.out.size))
      clear hb2 HA
      go_wp2_with fail
      go_ret
      exact ⟨rfl, HB2.out⟩
theorem own : ownKnob Try.prog.godebug = none := by kernel_rfl
theorem laidOut : laidOutB Try.prog = true := by kernel_rfl
theorem cells_uint8 : Try.prog.cellsOf 5 = 1 := by kernel_rfl
set_option maxRecDepth 100000 in
theorem lifted (os : Os) (started : os.Started) (H : Type) (enc : TypeId × Value → H) :
    ReturnsInHanded {} Try.checked os 4 .any (Rows.autoPrefixSpec.pre6 enc Try.prog Try.f4 Rows.autoPrefixRow.domain false) (Rows.autoPrefixSpec.post enc Try.prog Try.f4 false true false false) := by
  refine returnsInHanded_of_change (C := Try.checked) own started (by kernel_rfl) Try.func4
    (ChangeSpec.witness6 (enc := enc) (C := Try.checked) false ⟨#[], #[.slice none 0 0, .slice none 0 0, .agg #[.int .i64 0, .int .i64 0, .int .i64 0]], []⟩ 8 (by kernel_rfl) (by kernel_rfl) (by kernel_rfl) (by kernel_rfl)) ?_
  intro W base args ds gs before hval0 hW _ _
  have hval : ∀ (j : Nat) t v, Try.f4.params[j]? = some t → args[j]? = some v → Value.okWide Try.prog W .any base t v := hval0
  have hlt := hW.lt
  have hW' := hW
  obtain ⟨p, q, hA0, hV, hpq, _, _⟩ := hW
  have hA : DataW.TrodAll enc Try.prog W 0 (fun _ => true) true Try.f4.params.toList args.toList ds p := hA0
  rw [Try.params4] at hA hval
  obtain ⟨v0, vs0, d0, ds0, p0, q0, hargs, rfl, rfl, h0, r0⟩ := trodAll_cons hA
  obtain ⟨v1, vs1, d1, ds1, p1, q1, rfl, rfl, rfl, h1, r1⟩ := trodAll_cons r0
  obtain ⟨v2, vs2, d2, ds2, p2, q2, rfl, rfl, rfl, h2, r2⟩ := trodAll_cons r1
  obtain ⟨rfl, rfl, rfl⟩ := trodAll_nil r2
  obtain rfl : args = #[v0, v1, v2] := by cases args; simp_all
  obtain ⟨rfl, rfl⟩ := trodVars_none hV
  obtain ⟨A0, cap0, zs0, rfl, hl0, hcap0, hnil0, hr0, hw0⟩ := open_nums' Try.underlying22 Try.underlying5 cells_uint8 (hval 0 22 v0 rfl rfl) h0 (fun x hx => hlt x (by rw [hpq]; simp [hx]))
  have hz0 : ByteL zs0 := fun c hc => by
    have : 0 ≤ c ∧ c ≤ 255 := by simpa [Lit.wf, IntKind.min, IntKind.max, IntKind.bits, IntKind.signed] using hw0 c hc
    omega
  obtain ⟨A1, cap1, zs1, rfl, hl1, hcap1, hnil1, hr1, hw1⟩ := open_nums' Try.underlying22 Try.underlying5 cells_uint8 (hval 1 22 v1 rfl rfl) h1 (fun x hx => hlt x (by rw [hpq]; simp [hx]))
  have hz1 : ByteL zs1 := fun c hc => by
    have : 0 ≤ c ∧ c ≤ 255 := by simpa [Lit.wf, IntKind.min, IntKind.max, IntKind.bits, IntKind.signed] using hw1 c hc
    omega
  obtain ⟨a2, b2, e2, rfl⟩ := open_limits (hval 2 24 v2 rfl rfl) h2
  refine (walk W A0 cap0 zs0 hcap0 hr0 hz0 hnil0 A1 cap1 zs1 hcap1 hr1 hz1 hnil1 a2 b2 e2).mono fun e W' ⟨he, hbl⟩ => ?_
  subst he
  exact ⟨_, rfl, law_post laidOut (by kernel_rfl) rfl (by kernel_rfl) Try.underlying4 rfl rfl rfl hW' hbl⟩

theorem over : Rows.autoPrefixRow.holds Try.pinned (OpenSpec.ofChange Rows.autoPrefixSpec) :=
  OpenClaim.holds_of_wide 4 Try.f4 rfl rfl rfl rfl rfl rfl rfl ⟨rfl, rfl, rfl, rfl, rfl⟩ rfl rfl rfl rfl rfl (by kernel_rfl) Try.func4 (by kernel_rfl)
    (of_decide_eq_true (by kernel_rfl)) (by unfold Func.isWrapper; first | (rw [if_pos (by decide +kernel)]; kernel_rfl) | (rw [if_neg (by decide +kernel)]; exact ⟨rfl, rfl⟩))
    (fun os started H enc _ => lifted os started H enc)

/-- The statement. -/
theorem proved : Rows.AutoPrefixSaid := over
#print axioms proved
end Go.Proofs.Ytmclmfhimdppjaa.autoPrefix
