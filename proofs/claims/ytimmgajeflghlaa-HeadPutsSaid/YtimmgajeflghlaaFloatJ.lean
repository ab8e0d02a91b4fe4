
/- The shortest float: of the document, of the code. -/
import Derived.Test.YtimmgajeflghlaaFloatI
namespace Go.Proofs.Ytimmgajeflghlaa
open Go.RowKit
set_option maxHeartbeats 2000000 in
theorem ref_Shortest (x : Nat) (h : x < 2 ^ (1 + 11 + 52)) (w : World) :
    Calls Try.prog 24 #[.int .u64 x] w fun e w' => SPost (Shortest x) e ∧ Below w.heap.size w w' := by
  have HV := Lib.hid (ref_value_double x h)
  have HX := Lib.hid (fun _ : Unit => h)
  generalize hx : (x : Int) = z at *
  have HZ := Lib.hid (fun _ : Unit => hx)
  clear h hx
  go_enter Try.func24, Try.ntmps24
  go_wp2_with fail
  refine (HV.out _).mono ?_
  rintro e w1 ⟨s, m, q, k, p, rfl, hv, hs, hm, hq, hp, S1⟩
  have HS1 := Lib.hid S1
  clear HV S1
  have hv0 := hv
  rcases hv0 with ⟨rfl, a, b⟩ | ⟨rfl, a, b, c, rfl⟩ | ⟨rfl, a, b, c⟩
  · have HW := Lib.hid (sh_nan a)
    clear hv hs hm hq hp a b
    generalize (s : Int) = sl at *
    generalize (m : Int) = ml at *
    rw [show ((2 : Nat) : Int) = 2 from rfl]
    go_wp2_with fail
    refine bodyPost_ret (results_tmp2 rfl _ _ _) rfl ?_
    exact ⟨s_post HW.out rfl rfl, HS1.out⟩
  · have HW := sh_inf (HX.out ()) a b
    rw [← c] at HW
    have HW := Lib.hid HW
    have HB := Lib.hid (ref_bits_half_inf s 0 hs p)
    clear hv hs hm hq hp a b c
    generalize hy : ((finf 5 10 s : Nat) : Int) = y at *
    generalize (s : Int) = sl at *
    rw [show ((0 : Nat) : Int) = 0 from rfl] at *
    rw [show ((1 : Nat) : Int) = 1 from rfl]
    have HY := Lib.hid (fun _ : Unit => hy)
    clear hy
    go_wp2_with (go_at_call 35; refine (HB.out _).mono ?_; rintro e w' ⟨rfl, rfl⟩)
    refine bodyPost_ret (results_tmp2 rfl _ _ _) rfl ?_
    exact ⟨s_post HW.out (HY.out ()).symm rfl, HS1.out⟩
  · by_cases hm0 : m = 0
    · subst hm0
      obtain ⟨z1, z2⟩ := value_zero hv rfl
      have HW := sh_zero (HX.out ()) z1 z2
      rw [← b] at HW
      have HW := Lib.hid HW
      have HB := Lib.hid (ref_bits_half_zero s hs p)
      clear hv hs hm hq hp a b c z1 z2
      generalize hy : ((s * 2 ^ (5 + 10) : Nat) : Int) = y at *
      generalize (s : Int) = sl at *
      rw [show ((0 : Nat) : Int) = 0 from rfl]
      have HY := Lib.hid (fun _ : Unit => hy)
      clear hy
      go_wp2_with (go_at_call 35; refine (HB.out _).mono ?_; rintro e w' ⟨rfl, rfl⟩)
      refine bodyPost_ret (results_tmp2 rfl _ _ _) rfl ?_
      exact ⟨s_post HW.out (HY.out ()).symm rfl, HS1.out⟩
    · have hpp := hp rfl hm0
      subst hpp
      have hodd : m % 2 = 1 := by
        rcases c with ⟨c, _⟩ | ⟨c, _⟩ <;> omega
      have HB := Lib.hid (ref_bits_half s m q hs hodd (by omega) (by omega))
      have HC := Lib.hid (ref_bits_single s m q hs hodd (by omega) (by omega))
      have HW := Lib.hid (fun z ok (hb : BitsTo 5 10 1050 s m q z ok) => bits_narrow .half (HX.out ()) hv rfl hm0 hb)
      have HU := Lib.hid (fun z ok (hb : BitsTo 8 23 925 s m q z ok) => bits_narrow .single (HX.out ()) hv rfl hm0 hb)
      have HN : Hid (¬ FNan 11 52 x) := Lib.hid (fun hn => by have := hn.1; omega)
      clear hv hs hm hq hp a b c hm0 hodd
      generalize (s : Int) = sl at *
      generalize (m : Int) = ml at *
      generalize (q : Int) - 1074 = pl at *
      rw [show ((0 : Nat) : Int) = 0 from rfl]
      go_wp2_with fail
      refine (HB.out _).mono ?_
      rintro e w2 ⟨⟨y, ok, rfl, hb⟩, S2⟩
      have HW := HW.out y ok hb
      have HS2 := Lib.hid (HS1.out.trans (S2.mono HS1.out.size))
      clear hb S2
      generalize hy : (y : Int) = yl at *
      have HY := Lib.hid (fun _ : Unit => hy)
      clear hy
      rcases HW with ⟨rfl, hw⟩ | ⟨rfl, hw⟩
      · have HR := Lib.hid (show Shortest x y 2 from Or.inr ⟨HN.out, Or.inl ⟨rfl, hw⟩⟩)
        clear hw
        go_wp2_with fail
        refine bodyPost_ret (results_tmp2 rfl _ _ _) rfl ?_
        exact ⟨s_post HR.out (HY.out ()).symm rfl, HS2.out⟩
      · have HNO := Lib.hid (fun _ : Unit => hw)
        clear hw
        go_wp2_with fail
        refine (HC.out _).mono ?_
        rintro e w3 ⟨⟨y2, ok, rfl, hb⟩, S3⟩
        have HU := HU.out y2 ok hb
        have HS3 := Lib.hid (HS2.out.trans (S3.mono HS2.out.size))
        clear hb S3
        generalize hy : (y2 : Int) = yl2 at *
        have HY2 := Lib.hid (fun _ : Unit => hy)
        clear hy
        rcases HU with ⟨rfl, hw⟩ | ⟨rfl, hw⟩
        · have HR := Lib.hid (show Shortest x y2 4 from Or.inr ⟨HN.out, Or.inr (Or.inl ⟨rfl, hw, HNO.out ()⟩)⟩)
          clear hw
          go_wp2_with fail
          refine bodyPost_ret (results_tmp2 rfl _ _ _) rfl ?_
          exact ⟨s_post HR.out (HY2.out ()).symm rfl, HS3.out⟩
        · have HR := Lib.hid (show Shortest x x 8 from Or.inr ⟨HN.out, Or.inr (Or.inr ⟨rfl, rfl, HNO.out (), hw⟩)⟩)
          clear hw
          go_wp2_with fail
          refine bodyPost_ret (results_tmp2 rfl _ _ _) rfl ?_
          exact ⟨s_post HR.out (HZ.out ()).symm rfl, HS3.out⟩

/-- What the code's loop knows ahead of the width i. -/
def LeftOff (x : Nat) (i : Int) : Prop := i = 2 ∨ (i = 4 ∧ ∀ y, ¬ Wide 5 10 1050 y x) ∨ (i = 8 ∧ (∀ y, ¬ Wide 5 10 1050 y x) ∧ ∀ y, ¬ Wide 8 23 925 y x)
set_option maxHeartbeats 4000000 in
theorem float_Shortest (x : Nat) (h : x < 2 ^ 64) (w : World) :
    Calls Try.prog 22 #[.int .u64 x] w fun e w' => SPost (Shortest x) e ∧ Below w.heap.size w w' := by
  have HNa := Lib.hid (float_NaN x h)
  by_cases hn : FNan 11 52 x
  · have HR := Lib.hid (sh_nan hn)
    rw [show decide (FNan 11 52 x) = true by simp [hn]] at HNa
    clear hn h
    generalize (x : Int) = z at *
    go_enter Try.func22, Try.ntmps22
    go_wp2_with (go_at_call 31; refine (HNa.out _).mono ?_; rintro e w1 ⟨rfl, S1⟩)
    refine bodyPost_ret (results_tmp2 rfl _ _ _) rfl ?_
    exact ⟨s_post HR.out rfl rfl, S1⟩
  · rw [show decide (FNan 11 52 x) = false by simp [hn]] at HNa
    have HN := Lib.hid hn
    have HX := Lib.hid (fun _ : Unit => h)
    have H2 := Lib.hid (float_narrow_half x h hn)
    have H4 := Lib.hid (float_narrow_single x h hn)
    generalize hx : (x : Int) = z at *
    have HZ := Lib.hid (fun _ : Unit => hx)
    clear hn h hx
    go_enter Try.func22, Try.ntmps22
    go_wp2_with (go_at_call 31; refine (HNa.out _).mono ?_; rintro e w1 ⟨rfl, S1⟩)
    have HS1 := Lib.hid S1
    clear S1
    go_loopw [4] (fun i wr => ∃ n : Int, i = .int .i64 n ∧ LeftOff x n ∧ Below w.heap.size w wr) (fun i _ => (8 - intOf i).toNat)
    case atStart => exact ⟨2, rfl, Or.inl rfl, HS1.out⟩
    case round =>
      obtain ⟨n, rfl, hl, S2⟩ := hrel
      have HS2 := Lib.hid S2
      clear S2
      rcases hl with rfl | ⟨rfl, hl⟩ | ⟨rfl, hl⟩
      · go_wp2_with fail
        refine (H2.out _).mono ?_
        rintro e w2 ⟨y, rfl, hy, hw, S3⟩
        have HWI := Lib.hid (float_Widen_half y hy)
        have HW := Lib.hid (fun _ : Unit => hw)
        have HS3 := Lib.hid (HS2.out.trans (S3.mono HS2.out.size))
        clear hy hw S3
        generalize hyl : (y : Int) = yl at *
        have HY := Lib.hid (fun _ : Unit => hyl)
        clear hyl
        go_wp2_with fail
        refine (HWI.out _).mono ?_
        rintro e w3 ⟨b, rfl, hb, S4⟩
        have HS4 := Lib.hid (HS3.out.trans (S4.mono HS3.out.size))
        by_cases hbx : b = x
        · have HR := Lib.hid (show Shortest x y 2 from Or.inr ⟨HN.out, Or.inl ⟨rfl, hbx ▸ hb⟩⟩)
          have hbz : (b : Int) = z := by rw [hbx]; exact HZ.out ()
          rw [hbz]
          clear hb S4 hbx hbz
          go_wp2_with fail
          refine bodyPost_ret (results_tmp2 rfl _ _ _) rfl ?_
          exact ⟨s_post HR.out (HY.out ()).symm rfl, HS4.out⟩
        · have HNO : Hid (∀ y', ¬ Wide 5 10 1050 y' x) := Lib.hid (fun y' hw' => hbx (wide_fun .half hb (by rw [HW.out () y' hw']; exact hw')))
          have hbz : ((b : Int) == z) = false := by
            have := HZ.out ()
            simp
            omega
          clear hb S4 hbx
          generalize (b : Int) = bl at *
          go_wp2_with fail
          go_roundw
          case rel => exact ⟨4, rfl, Or.inr (Or.inl ⟨rfl, HNO.out⟩), HS4.out⟩
          case measure => simp [intOf]
      · have HL := Lib.hid (fun _ : Unit => hl)
        clear hl
        go_wp2_with fail
        refine (H4.out _).mono ?_
        rintro e w2 ⟨y, rfl, hy, hw, S3⟩
        have HWI := Lib.hid (float_Widen_single y hy)
        have HW := Lib.hid (fun _ : Unit => hw)
        have HS3 := Lib.hid (HS2.out.trans (S3.mono HS2.out.size))
        clear hy hw S3
        generalize hyl : (y : Int) = yl at *
        have HY := Lib.hid (fun _ : Unit => hyl)
        clear hyl
        go_wp2_with fail
        refine (HWI.out _).mono ?_
        rintro e w3 ⟨b, rfl, hb, S4⟩
        have HS4 := Lib.hid (HS3.out.trans (S4.mono HS3.out.size))
        by_cases hbx : b = x
        · have HR := Lib.hid (show Shortest x y 4 from Or.inr ⟨HN.out, Or.inr (Or.inl ⟨rfl, hbx ▸ hb, HL.out ()⟩)⟩)
          have hbz : (b : Int) = z := by rw [hbx]; exact HZ.out ()
          rw [hbz]
          clear hb S4 hbx hbz
          go_wp2_with fail
          refine bodyPost_ret (results_tmp2 rfl _ _ _) rfl ?_
          exact ⟨s_post HR.out (HY.out ()).symm rfl, HS4.out⟩
        · have HNO : Hid (∀ y', ¬ Wide 8 23 925 y' x) := Lib.hid (fun y' hw' => hbx (wide_fun .single hb (by rw [HW.out () y' hw']; exact hw')))
          have hbz : ((b : Int) == z) = false := by
            have := HZ.out ()
            simp
            omega
          clear hb S4 hbx
          generalize (b : Int) = bl at *
          go_wp2_with fail
          go_roundw
          case rel => exact ⟨8, rfl, Or.inr (Or.inr ⟨rfl, HL.out (), HNO.out⟩), HS4.out⟩
          case measure => simp [intOf]
      · have HR := Lib.hid (show Shortest x x 8 from Or.inr ⟨HN.out, Or.inr (Or.inr ⟨rfl, rfl, hl⟩)⟩)
        clear hl
        go_wp2_with fail
        refine bodyPost_ret (results_tmp2 rfl _ _ _) rfl ?_
        exact ⟨s_post HR.out (HZ.out ()).symm rfl, HS2.out⟩
end Go.Proofs.Ytimmgajeflghlaa
