/- The document's float: Widen and Shortest. -/
import Derived.Test.YtmclmfhimdppjaaKAP
namespace Go.Proofs.Ytmclmfhimdppjaa
open Go.RowKit
/-- x is the double of the form y of W bytes. -/
def Wd (W : Int) (y x : Nat) : Prop := (W = 2 ∧ Wide 5 10 1050 y x) ∨ (W = 4 ∧ Wide 8 23 925 y x) ∨ (W = 8 ∧ Wide 11 52 0 y x)
theorem wd_fun {W : Int} {y x x' : Nat} (a : Wd W y x) (b : Wd W y x') : x = x' := by
  rcases a with ⟨h, a⟩ | ⟨h, a⟩ | ⟨h, a⟩ <;> rcases b with ⟨h', b⟩ | ⟨h', b⟩ | ⟨h', b⟩ <;> first | omega | skip
  · exact wide_fun .half a b
  · exact wide_fun .single a b
  · exact wide_fun .double a b
theorem wd_lt {W : Int} {y x : Nat} (a : Wd W y x) : x < 2 ^ 64 := by
  rcases a with ⟨_, a⟩ | ⟨_, a⟩ | ⟨_, a⟩ <;> exact a.2.1
theorem sh_nan {x : Nat} (h : FNan 11 52 x) : Shortest x 32256 2 := Or.inl ⟨h, rfl, rfl⟩
theorem sh_inf {x : Nat} (hx : x < 2 ^ 64) (he : fex 11 52 x = 2047) (hf : ffr 52 x = 0) : Shortest x (finf 5 10 (fsg 11 52 x)) 2 := by
  refine Or.inr ⟨fun h => h.2 hf, Or.inl ⟨rfl, ?_⟩⟩
  obtain ⟨a, b, c, d⟩ := inf_parts .half (f_small .double x).1
  have := widen_inf .half a c d
  rw [b, ← inf_of .double hx he hf] at this
  exact this
theorem sh_zero {x : Nat} (hx : x < 2 ^ 64) (he : fex 11 52 x = 0) (hf : ffr 52 x = 0) : Shortest x (fsg 11 52 x * 2 ^ (5 + 10)) 2 := by
  refine Or.inr ⟨fun h => h.2 hf, Or.inl ⟨rfl, ?_⟩⟩
  obtain ⟨a, b, c, d⟩ := f_parts .half (f_small .double x).1 (show 0 < 2 ^ 5 by decide) (show 0 < 2 ^ 10 by decide)
  rw [Nat.zero_mul, Nat.add_zero, Nat.add_zero] at a b c d
  have := widen_zero .half a c d
  have h2 := f_split .double hx
  rw [he, hf, Nat.zero_mul, Nat.add_zero, Nat.add_zero] at h2
  rw [b, ← h2] at this
  exact this
def PairPost (P : Nat → Prop) (e : Ending) : Prop := ∃ z : Nat, e = .returned (.tuple #[.int .u64 z, .bool true]) ∧ P z
theorem pair_post {P : Nat → Prop} {z : Nat} {zi : Int} (h : P z) (hz : zi = z) : PairPost P (.returned (.tuple #[.int .u64 zi, .bool true])) := ⟨z, by rw [hz], h⟩
def SPost (P : Nat → Nat → Prop) (e : Ending) : Prop := ∃ z v : Nat, e = .returned (.tuple #[.int .u64 z, .int .i64 v]) ∧ P z v
theorem s_post {P : Nat → Nat → Prop} {z v : Nat} {zi vi : Int} (h : P z v) (hz : zi = z) (hv : vi = v) : SPost P (.returned (.tuple #[.int .u64 zi, .int .i64 vi])) := ⟨z, v, by rw [hz, hv], h⟩
set_option maxHeartbeats 1000000 in
theorem ref_Widen_other (x : Nat) (W : Int) (h2 : W ≠ 2) (h4 : W ≠ 4) (h8 : W ≠ 8) (w : World) :
    Calls Try.prog 56 #[.int .u64 x, .int .i64 W] w fun e w' => e = .returned (.tuple #[.int .u64 0, .bool false]) ∧ Below w.heap.size w w' := by
  have q2 : (W == 2) = false := by simp [h2]
  have q4 : (W == 4) = false := by simp [h4]
  have q8 : (W == 8) = false := by simp [h8]
  generalize (x : Int) = z
  clear h2 h4 h8
  go_enter Try.func56, Try.ntmps56
  go_wp2_with fail
  refine bodyPost_ret (results_tmp2 rfl _ _ _) rfl ?_
  exact ⟨rfl, Below.refl _ _⟩
set_option maxHeartbeats 1000000 in
theorem ref_Widen_half_not (x : Nat) (h : 65536 ≤ x) (w : World) :
    Calls Try.prog 56 #[.int .u64 x, .int .i64 2] w fun e w' => e = .returned (.tuple #[.int .u64 0, .bool false]) ∧ Below w.heap.size w w' := by
  have q0 : (65536 : Int) ≤ x := by omega
  generalize (x : Int) = z at *
  clear h
  go_enter Try.func56, Try.ntmps56
  go_wp2_with fail
  refine bodyPost_ret (results_tmp2 rfl _ _ _) rfl ?_
  exact ⟨rfl, Below.refl _ _⟩
set_option maxHeartbeats 2000000 in
theorem ref_Widen_half (x : Nat) (h : x < 2 ^ (1 + 5 + 10)) (w : World) :
    Calls Try.prog 56 #[.int .u64 x, .int .i64 2] w fun e w' => PairPost (Wide 5 10 1050 x) e ∧ Below w.heap.size w w' := by
  have q0 : (x : Int) < 65536 := by omega
  have HV := Lib.hid (ref_value_half x h)
  have HX := Lib.hid (fun _ : Unit => h)
  generalize (x : Int) = z at *
  clear h
  go_enter Try.func56, Try.ntmps56
  go_wp2_with fail
  refine (HV.out _).mono ?_
  rintro e w1 ⟨s, m, q, k, p, rfl, hv, hs, hm, hq, hp, S1⟩
  have HS1 := Lib.hid S1
  clear HV S1
  have hv0 := hv
  rcases hv0 with ⟨rfl, a, b⟩ | ⟨rfl, a, b, c, rfl⟩ | ⟨rfl, a, b, c⟩
  · have HW := Lib.hid (widen_nan (O := 1050) (HX.out ()) a)
    clear hv hs hm hq hp a b
    generalize (s : Int) = sl at *
    generalize (m : Int) = ml at *
    rw [show ((2 : Nat) : Int) = 2 from rfl]
    go_wp2_with fail
    refine bodyPost_ret (results_tmp2 rfl _ _ _) rfl ?_
    exact ⟨pair_post HW.out rfl, HS1.out⟩
  · have HW := widen_inf .half (HX.out ()) a b
    rw [← c] at HW
    have HW := Lib.hid HW
    have HB := Lib.hid (ref_bits_double_inf s 0 hs p)
    clear hv hs hm hq hp a b c
    generalize hy : ((finf 11 52 s : Nat) : Int) = y at *
    generalize (s : Int) = sl at *
    rw [show ((0 : Nat) : Int) = 0 from rfl] at *
    rw [show ((1 : Nat) : Int) = 1 from rfl]
    have HY := Lib.hid (fun _ : Unit => hy)
    clear hy
    go_wp2_with (go_at_call 67; refine (HB.out _).mono ?_; rintro e w' ⟨rfl, rfl⟩)
    refine bodyPost_ret (results_tmp2 rfl _ _ _) rfl ?_
    exact ⟨pair_post HW.out (HY.out ()).symm, HS1.out⟩
  · by_cases hm0 : m = 0
    · subst hm0
      obtain ⟨z1, z2⟩ := value_zero hv rfl
      have HW := widen_zero .half (HX.out ()) z1 z2
      rw [← b] at HW
      have HW := Lib.hid HW
      have HB := Lib.hid (ref_bits_double_zero s hs p)
      clear hv hs hm hq hp a b c z1 z2
      generalize hy : ((s * 2 ^ (11 + 52) : Nat) : Int) = y at *
      generalize (s : Int) = sl at *
      rw [show ((0 : Nat) : Int) = 0 from rfl]
      have HY := Lib.hid (fun _ : Unit => hy)
      clear hy
      go_wp2_with (go_at_call 67; refine (HB.out _).mono ?_; rintro e w' ⟨rfl, rfl⟩)
      refine bodyPost_ret (results_tmp2 rfl _ _ _) rfl ?_
      exact ⟨pair_post HW.out (HY.out ()).symm, HS1.out⟩
    · have hpp := hp rfl hm0
      subst hpp
      have hodd : m % 2 = 1 := by
        rcases c with ⟨c, _⟩ | ⟨c, _⟩ <;> omega
      have HB := Lib.hid (ref_bits_double s m q hs hodd (by omega) (by omega))
      have HW := Lib.hid (fun z ok (hb : BitsTo 11 52 0 s m q z ok) => bits_wide .half (HX.out ()) hv rfl hm0 hb)
      clear hv hs hm hq hp a b c hm0 hodd
      generalize (s : Int) = sl at *
      generalize (m : Int) = ml at *
      generalize (q : Int) - 1074 = pl at *
      rw [show ((0 : Nat) : Int) = 0 from rfl]
      go_wp2_with fail
      refine (HB.out _).mono ?_
      rintro e w2 ⟨⟨y, ok, rfl, hb⟩, S2⟩
      have HW := Lib.hid (HW.out y ok hb)
      clear hb
      generalize hy : (y : Int) = yl at *
      have HY := Lib.hid (fun _ : Unit => hy)
      clear hy
      go_wp2_with fail
      refine bodyPost_ret (results_tmp2 rfl _ _ _) rfl ?_
      exact ⟨pair_post HW.out (HY.out ()).symm, HS1.out.trans (S2.mono HS1.out.size)⟩
set_option maxHeartbeats 1000000 in
theorem ref_Widen_single_not (x : Nat) (h : 4294967296 ≤ x) (w : World) :
    Calls Try.prog 56 #[.int .u64 x, .int .i64 4] w fun e w' => e = .returned (.tuple #[.int .u64 0, .bool false]) ∧ Below w.heap.size w w' := by
  have q0 : (4294967296 : Int) ≤ x := by omega
  generalize (x : Int) = z at *
  clear h
  go_enter Try.func56, Try.ntmps56
  go_wp2_with fail
  refine bodyPost_ret (results_tmp2 rfl _ _ _) rfl ?_
  exact ⟨rfl, Below.refl _ _⟩
set_option maxHeartbeats 2000000 in
theorem ref_Widen_single (x : Nat) (h : x < 2 ^ (1 + 8 + 23)) (w : World) :
    Calls Try.prog 56 #[.int .u64 x, .int .i64 4] w fun e w' => PairPost (Wide 8 23 925 x) e ∧ Below w.heap.size w w' := by
  have q0 : (x : Int) < 4294967296 := by omega
  have HV := Lib.hid (ref_value_single x h)
  have HX := Lib.hid (fun _ : Unit => h)
  generalize (x : Int) = z at *
  clear h
  go_enter Try.func56, Try.ntmps56
  go_wp2_with fail
  refine (HV.out _).mono ?_
  rintro e w1 ⟨s, m, q, k, p, rfl, hv, hs, hm, hq, hp, S1⟩
  have HS1 := Lib.hid S1
  clear HV S1
  have hv0 := hv
  rcases hv0 with ⟨rfl, a, b⟩ | ⟨rfl, a, b, c, rfl⟩ | ⟨rfl, a, b, c⟩
  · have HW := Lib.hid (widen_nan (O := 925) (HX.out ()) a)
    clear hv hs hm hq hp a b
    generalize (s : Int) = sl at *
    generalize (m : Int) = ml at *
    rw [show ((2 : Nat) : Int) = 2 from rfl]
    go_wp2_with fail
    refine bodyPost_ret (results_tmp2 rfl _ _ _) rfl ?_
    exact ⟨pair_post HW.out rfl, HS1.out⟩
  · have HW := widen_inf .single (HX.out ()) a b
    rw [← c] at HW
    have HW := Lib.hid HW
    have HB := Lib.hid (ref_bits_double_inf s 0 hs p)
    clear hv hs hm hq hp a b c
    generalize hy : ((finf 11 52 s : Nat) : Int) = y at *
    generalize (s : Int) = sl at *
    rw [show ((0 : Nat) : Int) = 0 from rfl] at *
    rw [show ((1 : Nat) : Int) = 1 from rfl]
    have HY := Lib.hid (fun _ : Unit => hy)
    clear hy
    go_wp2_with (go_at_call 67; refine (HB.out _).mono ?_; rintro e w' ⟨rfl, rfl⟩)
    refine bodyPost_ret (results_tmp2 rfl _ _ _) rfl ?_
    exact ⟨pair_post HW.out (HY.out ()).symm, HS1.out⟩
  · by_cases hm0 : m = 0
    · subst hm0
      obtain ⟨z1, z2⟩ := value_zero hv rfl
      have HW := widen_zero .single (HX.out ()) z1 z2
      rw [← b] at HW
      have HW := Lib.hid HW
      have HB := Lib.hid (ref_bits_double_zero s hs p)
      clear hv hs hm hq hp a b c z1 z2
      generalize hy : ((s * 2 ^ (11 + 52) : Nat) : Int) = y at *
      generalize (s : Int) = sl at *
      rw [show ((0 : Nat) : Int) = 0 from rfl]
      have HY := Lib.hid (fun _ : Unit => hy)
      clear hy
      go_wp2_with (go_at_call 67; refine (HB.out _).mono ?_; rintro e w' ⟨rfl, rfl⟩)
      refine bodyPost_ret (results_tmp2 rfl _ _ _) rfl ?_
      exact ⟨pair_post HW.out (HY.out ()).symm, HS1.out⟩
    · have hpp := hp rfl hm0
      subst hpp
      have hodd : m % 2 = 1 := by
        rcases c with ⟨c, _⟩ | ⟨c, _⟩ <;> omega
      have HB := Lib.hid (ref_bits_double s m q hs hodd (by omega) (by omega))
      have HW := Lib.hid (fun z ok (hb : BitsTo 11 52 0 s m q z ok) => bits_wide .single (HX.out ()) hv rfl hm0 hb)
      clear hv hs hm hq hp a b c hm0 hodd
      generalize (s : Int) = sl at *
      generalize (m : Int) = ml at *
      generalize (q : Int) - 1074 = pl at *
      rw [show ((0 : Nat) : Int) = 0 from rfl]
      go_wp2_with fail
      refine (HB.out _).mono ?_
      rintro e w2 ⟨⟨y, ok, rfl, hb⟩, S2⟩
      have HW := Lib.hid (HW.out y ok hb)
      clear hb
      generalize hy : (y : Int) = yl at *
      have HY := Lib.hid (fun _ : Unit => hy)
      clear hy
      go_wp2_with fail
      refine bodyPost_ret (results_tmp2 rfl _ _ _) rfl ?_
      exact ⟨pair_post HW.out (HY.out ()).symm, HS1.out.trans (S2.mono HS1.out.size)⟩
set_option maxHeartbeats 2000000 in
theorem ref_Widen_double (x : Nat) (h : x < 2 ^ (1 + 11 + 52)) (w : World) :
    Calls Try.prog 56 #[.int .u64 x, .int .i64 8] w fun e w' => PairPost (Wide 11 52 0 x) e ∧ Below w.heap.size w w' := by
  have q0 : (x : Int) < 18446744073709551616 := by omega
  have HV := Lib.hid (ref_value_double x h)
  have HX := Lib.hid (fun _ : Unit => h)
  generalize (x : Int) = z at *
  clear h
  go_enter Try.func56, Try.ntmps56
  go_wp2_with fail
  refine (HV.out _).mono ?_
  rintro e w1 ⟨s, m, q, k, p, rfl, hv, hs, hm, hq, hp, S1⟩
  have HS1 := Lib.hid S1
  clear HV S1
  have hv0 := hv
  rcases hv0 with ⟨rfl, a, b⟩ | ⟨rfl, a, b, c, rfl⟩ | ⟨rfl, a, b, c⟩
  · have HW := Lib.hid (widen_nan (O := 0) (HX.out ()) a)
    clear hv hs hm hq hp a b
    generalize (s : Int) = sl at *
    generalize (m : Int) = ml at *
    rw [show ((2 : Nat) : Int) = 2 from rfl]
    go_wp2_with fail
    refine bodyPost_ret (results_tmp2 rfl _ _ _) rfl ?_
    exact ⟨pair_post HW.out rfl, HS1.out⟩
  · have HW := widen_inf .double (HX.out ()) a b
    rw [← c] at HW
    have HW := Lib.hid HW
    have HB := Lib.hid (ref_bits_double_inf s 0 hs p)
    clear hv hs hm hq hp a b c
    generalize hy : ((finf 11 52 s : Nat) : Int) = y at *
    generalize (s : Int) = sl at *
    rw [show ((0 : Nat) : Int) = 0 from rfl] at *
    rw [show ((1 : Nat) : Int) = 1 from rfl]
    have HY := Lib.hid (fun _ : Unit => hy)
    clear hy
    go_wp2_with (go_at_call 67; refine (HB.out _).mono ?_; rintro e w' ⟨rfl, rfl⟩)
    refine bodyPost_ret (results_tmp2 rfl _ _ _) rfl ?_
    exact ⟨pair_post HW.out (HY.out ()).symm, HS1.out⟩
  · by_cases hm0 : m = 0
    · subst hm0
      obtain ⟨z1, z2⟩ := value_zero hv rfl
      have HW := widen_zero .double (HX.out ()) z1 z2
      rw [← b] at HW
      have HW := Lib.hid HW
      have HB := Lib.hid (ref_bits_double_zero s hs p)
      clear hv hs hm hq hp a b c z1 z2
      generalize hy : ((s * 2 ^ (11 + 52) : Nat) : Int) = y at *
      generalize (s : Int) = sl at *
      rw [show ((0 : Nat) : Int) = 0 from rfl]
      have HY := Lib.hid (fun _ : Unit => hy)
      clear hy
      go_wp2_with (go_at_call 67; refine (HB.out _).mono ?_; rintro e w' ⟨rfl, rfl⟩)
      refine bodyPost_ret (results_tmp2 rfl _ _ _) rfl ?_
      exact ⟨pair_post HW.out (HY.out ()).symm, HS1.out⟩
    · have hpp := hp rfl hm0
      subst hpp
      have hodd : m % 2 = 1 := by
        rcases c with ⟨c, _⟩ | ⟨c, _⟩ <;> omega
      have HB := Lib.hid (ref_bits_double s m q hs hodd (by omega) (by omega))
      have HW := Lib.hid (fun z ok (hb : BitsTo 11 52 0 s m q z ok) => bits_wide .double (HX.out ()) hv rfl hm0 hb)
      clear hv hs hm hq hp a b c hm0 hodd
      generalize (s : Int) = sl at *
      generalize (m : Int) = ml at *
      generalize (q : Int) - 1074 = pl at *
      rw [show ((0 : Nat) : Int) = 0 from rfl]
      go_wp2_with fail
      refine (HB.out _).mono ?_
      rintro e w2 ⟨⟨y, ok, rfl, hb⟩, S2⟩
      have HW := Lib.hid (HW.out y ok hb)
      clear hb
      generalize hy : (y : Int) = yl at *
      have HY := Lib.hid (fun _ : Unit => hy)
      clear hy
      go_wp2_with fail
      refine bodyPost_ret (results_tmp2 rfl _ _ _) rfl ?_
      exact ⟨pair_post HW.out (HY.out ()).symm, HS1.out.trans (S2.mono HS1.out.size)⟩
end Go.Proofs.Ytmclmfhimdppjaa
