/- The document's float: Widen and Shortest. -/
import Derived.Test.YtchhbcmkhbfpoaaKAM
import Derived.Test.YtchhbcmkhbfpoaaKAA
namespace Go.Proofs.Ytchhbcmkhbfpoaa
open Go.RowKit
/-- x is the double of the form y of W bytes. -/
def Wd (W : Int) (y x : Nat) : Prop := (W = 2 ∧ Wide 5 10 1050 y x) ∨ (W = 4 ∧ Wide 8 23 925 y x) ∨ (W = 8 ∧ Wide 11 52 0 y x)
theorem wd_fun {W : Int} {y x x' : Nat} (a : Wd W y x) (b : Wd W y x') : x = x' := by
  rcases a with ⟨h, a⟩ | ⟨h, a⟩ | ⟨h, a⟩ <;> rcases b with ⟨h', b⟩ | ⟨h', b⟩ | ⟨h', b⟩ <;> first | omega | skip
  · exact wide_fun .half a b
  · exact wide_fun .single a b
  · exact wide_fun .double a b
theorem wd_lt {W : Int} {y x : Nat} (a : Wd W y x) : x < 2 ^ 64 := by
  rcases a with ⟨_, a⟩ | ⟨_, a⟩ | ⟨_, a⟩ <;> exact a.2.1
theorem sh_nan {x : Nat} (h : FNan 11 52 x) : Shortest x 32256 2 := Or.inl ⟨h, rfl, rfl⟩
theorem sh_inf {x : Nat} (hx : x < 2 ^ 64) (he : fex 11 52 x = 2047) (hf : ffr 52 x = 0) : Shortest x (finf 5 10 (fsg 11 52 x)) 2 := by
  refine Or.inr ⟨fun h => h.2 hf, Or.inl ⟨rfl, ?_⟩⟩
  obtain ⟨a, b, c, d⟩ := inf_parts .half (f_small .double x).1
  have := widen_inf .half a c d
  rw [b, ← inf_of .double hx he hf] at this
  exact this
theorem sh_zero {x : Nat} (hx : x < 2 ^ 64) (he : fex 11 52 x = 0) (hf : ffr 52 x = 0) : Shortest x (fsg 11 52 x * 2 ^ (5 + 10)) 2 := by
  refine Or.inr ⟨fun h => h.2 hf, Or.inl ⟨rfl, ?_⟩⟩
  obtain ⟨a, b, c, d⟩ := f_parts .half (f_small .double x).1 (show 0 < 2 ^ 5 by decide) (show 0 < 2 ^ 10 by decide)
  rw [Nat.zero_mul, Nat.add_zero, Nat.add_zero] at a b c d
  have := widen_zero .half a c d
  have h2 := f_split .double hx
  rw [he, hf, Nat.zero_mul, Nat.add_zero, Nat.add_zero] at h2
  rw [b, ← h2] at this
  exact this
def PairPost (P : Nat → Prop) (e : Ending) : Prop := ∃ z : Nat, e = .returned (.tuple #[.int .u64 z, .bool true]) ∧ P z
theorem pair_post {P : Nat → Prop} {z : Nat} {zi : Int} (h : P z) (hz : zi = z) : PairPost P (.returned (.tuple #[.int .u64 zi, .bool true])) := ⟨z, by rw [hz], h⟩
def SPost (P : Nat → Nat → Prop) (e : Ending) : Prop := ∃ z v : Nat, e = .returned (.tuple #[.int .u64 z, .int .i64 v]) ∧ P z v
theorem s_post {P : Nat → Nat → Prop} {z v : Nat} {zi vi : Int} (h : P z v) (hz : zi = z) (hv : vi = v) : SPost P (.returned (.tuple #[.int .u64 zi, .int .i64 vi])) := ⟨z, v, by rw [hz, hv], h⟩
set_option maxHeartbeats 1000000 in
theorem ref_Widen_other (x : Nat) (W : Int) (h2 : W ≠ 2) (h4 : W ≠ 4) (h8 : W ≠ 8) (w : World) :
    Calls Try.prog 32 #[.int .u64 x, .int .i64 W] w fun e w' => e = .returned (.tuple #[.int .u64 0, .bool false]) ∧ Below w.heap.size w w' := by
  have q2 : (W == 2) = false := by simp [h2]
  have q4 : (W == 4) = false := by simp [h4]
  have q8 : (W == 8) = false := by simp [h8]
  generalize (x : Int) = z
  clear h2 h4 h8
  go_enter Try.func32, Try.ntmps32
  go_wp2_with fail
  refine bodyPost_ret (results_tmp2 rfl _ _ _) rfl ?_
  exact ⟨rfl, Below.refl _ _⟩
set_option maxHeartbeats 1000000 in
theorem ref_Widen_half_not (x : Nat) (h : 65536 ≤ x) (w : World) :
    Calls Try.prog 32 #[.int .u64 x, .int .i64 2] w fun e w' => e = .returned (.tuple #[.int .u64 0, .bool false]) ∧ Below w.heap.size w w' := by
  have q0 : (65536 : Int) ≤ x := by omega
  generalize (x : Int) = z at *
  clear h
  go_enter Try.func32, Try.ntmps32
  go_wp2_with fail
  refine bodyPost_ret (results_tmp2 rfl _ _ _) rfl ?_
  exact ⟨rfl, Below.refl _ _⟩
set_option maxHeartbeats 2000000 in
theorem ref_Widen_half (x : Nat) (h : x < 2 ^ (1 + 5 + 10)) (w : World) :
    Calls Try.prog 32 #[.int .u64 x, .int .i64 2] w fun e w' => PairPost (Wide 5 10 1050 x) e ∧ Below w.heap.size w w' := by
  have q0 : (x : Int) < 65536 := by omega
  have HV := Lib.hid (ref_value_half x h)
  have HX := Lib.hid (fun _ : Unit => h)
  generalize (x : Int) = z at *
  clear h
  go_enter Try.func32, Try.ntmps32
  go_wp2_with fail
  refine (HV.out _).mono ?_
  rintro e w1 ⟨s, m, q, k, p, rfl, hv, hs, hm, hq, hp, S1⟩
  have HS1 := Lib.hid S1
  clear HV S1
  have hv0 := hv
  rcases hv0 with ⟨rfl, a, b⟩ | ⟨rfl, a, b, c, rfl⟩ | ⟨rfl, a, b, c⟩
  · have HW := Lib.hid (widen_nan (O := 1050) (HX.out ()) a)
    clear hv hs hm hq hp a b
    generalize (s : Int) = sl at *
    generalize (m : Int) = ml at *
    rw [show ((2 : Nat) : Int) = 2 from rfl]
    go_wp2_with fail
    refine bodyPost_ret (results_tmp2 rfl _ _ _) rfl ?_
    exact ⟨pair_post HW.out rfl, HS1.out⟩
  · have HW := widen_inf .half (HX.out ()) a b
    rw [← c] at HW
    have HW := Lib.hid HW
    have HB := Lib.hid (ref_bits_double_inf s 0 hs p)
    clear hv hs hm hq hp a b c
    generalize hy : ((finf 11 52 s : Nat) : Int) = y at *
    generalize (s : Int) = sl at *
    rw [show ((0 : Nat) : Int) = 0 from rfl] at *
    rw [show ((1 : Nat) : Int) = 1 from rfl]
    have HY := Lib.hid (fun _ : Unit => hy)
    clear hy
    go_wp2_with (go_at_call 45; refine (HB.out _).mono ?_; rintro e w' ⟨rfl, rfl⟩)
    refine bodyPost_ret (results_tmp2 rfl _ _ _) rfl ?_
    exact ⟨pair_post HW.out (HY.out ()).symm, HS1.out⟩
  · by_cases hm0 : m = 0
    · subst hm0
      obtain ⟨z1, z2⟩ := value_zero hv rfl
      have HW := widen_zero .half (HX.out ()) z1 z2
      rw [← b] at HW
      have HW := Lib.hid HW
      have HB := Lib.hid (ref_bits_double_zero s hs p)
      clear hv hs hm hq hp a b c z1 z2
      generalize hy : ((s * 2 ^ (11 + 52) : Nat) : Int) = y at *
      generalize (s : Int) = sl at *
      rw [show ((0 : Nat) : Int) = 0 from rfl]
      have HY := Lib.hid (fun _ : Unit => hy)
      clear hy
      go_wp2_with (go_at_call 45; refine (HB.out _).mono ?_; rintro e w' ⟨rfl, rfl⟩)
      refine bodyPost_ret (results_tmp2 rfl _ _ _) rfl ?_
      exact ⟨pair_post HW.out (HY.out ()).symm, HS1.out⟩
    · have hpp := hp rfl hm0
      subst hpp
      have hodd : m % 2 = 1 := by
        rcases c with ⟨c, _⟩ | ⟨c, _⟩ <;> omega
      have HB := Lib.hid (ref_bits_double s m q hs hodd (by omega) (by omega))
      have HW := Lib.hid (fun z ok (hb : BitsTo 11 52 0 s m q z ok) => bits_wide .half (HX.out ()) hv rfl hm0 hb)
      clear hv hs hm hq hp a b c hm0 hodd
      generalize (s : Int) = sl at *
      generalize (m : Int) = ml at *
      generalize (q : Int) - 1074 = pl at *
      rw [show ((0 : Nat) : Int) = 0 from rfl]
      go_wp2_with fail
      refine (HB.out _).mono ?_
      rintro e w2 ⟨⟨y, ok, rfl, hb⟩, S2⟩
      have HW := Lib.hid (HW.out y ok hb)
      clear hb
      generalize hy : (y : Int) = yl at *
      have HY := Lib.hid (fun _ : Unit => hy)
      clear hy
      go_wp2_with fail
      refine bodyPost_ret (results_tmp2 rfl _ _ _) rfl ?_
      exact ⟨pair_post HW.out (HY.out ()).symm, HS1.out.trans (S2.mono HS1.out.size)⟩
set_option maxHeartbeats 1000000 in
theorem ref_Widen_single_not (x : Nat) (h : 4294967296 ≤ x) (w : World) :
    Calls Try.prog 32 #[.int .u64 x, .int .i64 4] w fun e w' => e = .returned (.tuple #[.int .u64 0, .bool false]) ∧ Below w.heap.size w w' := by
  have q0 : (4294967296 : Int) ≤ x := by omega
  generalize (x : Int) = z at *
  clear h
  go_enter Try.func32, Try.ntmps32
  go_wp2_with fail
  refine bodyPost_ret (results_tmp2 rfl _ _ _) rfl ?_
  exact ⟨rfl, Below.refl _ _⟩
set_option maxHeartbeats 2000000 in
theorem ref_Widen_single (x : Nat) (h : x < 2 ^ (1 + 8 + 23)) (w : World) :
    Calls Try.prog 32 #[.int .u64 x, .int .i64 4] w fun e w' => PairPost (Wide 8 23 925 x) e ∧ Below w.heap.size w w' := by
  have q0 : (x : Int) < 4294967296 := by omega
  have HV := Lib.hid (ref_value_single x h)
  have HX := Lib.hid (fun _ : Unit => h)
  generalize (x : Int) = z at *
  clear h
  go_enter Try.func32, Try.ntmps32
  go_wp2_with fail
  refine (HV.out _).mono ?_
  rintro e w1 ⟨s, m, q, k, p, rfl, hv, hs, hm, hq, hp, S1⟩
  have HS1 := Lib.hid S1
  clear HV S1
  have hv0 := hv
  rcases hv0 with ⟨rfl, a, b⟩ | ⟨rfl, a, b, c, rfl⟩ | ⟨rfl, a, b, c⟩
  · have HW := Lib.hid (widen_nan (O := 925) (HX.out ()) a)
    clear hv hs hm hq hp a b
    generalize (s : Int) = sl at *
    generalize (m : Int) = ml at *
    rw [show ((2 : Nat) : Int) = 2 from rfl]
    go_wp2_with fail
    refine bodyPost_ret (results_tmp2 rfl _ _ _) rfl ?_
    exact ⟨pair_post HW.out rfl, HS1.out⟩
  · have HW := widen_inf .single (HX.out ()) a b
    rw [← c] at HW
    have HW := Lib.hid HW
    have HB := Lib.hid (ref_bits_double_inf s 0 hs p)
    clear hv hs hm hq hp a b c
    generalize hy : ((finf 11 52 s : Nat) : Int) = y at *
    generalize (s : Int) = sl at *
    rw [show ((0 : Nat) : Int) = 0 from rfl] at *
    rw [show ((1 : Nat) : Int) = 1 from rfl]
    have HY := Lib.hid (fun _ : Unit => hy)
    clear hy
    go_wp2_with (go_at_call 45; refine (HB.out _).mono ?_; rintro e w' ⟨rfl, rfl⟩)
    refine bodyPost_ret (results_tmp2 rfl _ _ _) rfl ?_
    exact ⟨pair_post HW.out (HY.out ()).symm, HS1.out⟩
  · by_cases hm0 : m = 0
    · subst hm0
      obtain ⟨z1, z2⟩ := value_zero hv rfl
      have HW := widen_zero .single (HX.out ()) z1 z2
      rw [← b] at HW
      have HW := Lib.hid HW
      have HB := Lib.hid (ref_bits_double_zero s hs p)
      clear hv hs hm hq hp a b c z1 z2
      generalize hy : ((s * 2 ^ (11 + 52) : Nat) : Int) = y at *
      generalize (s : Int) = sl at *
      rw [show ((0 : Nat) : Int) = 0 from rfl]
      have HY := Lib.hid (fun _ : Unit => hy)
      clear hy
      go_wp2_with (go_at_call 45; refine (HB.out _).mono ?_; rintro e w' ⟨rfl, rfl⟩)
      refine bodyPost_ret (results_tmp2 rfl _ _ _) rfl ?_
      exact ⟨pair_post HW.out (HY.out ()).symm, HS1.out⟩
    · have hpp := hp rfl hm0
      subst hpp
      have hodd : m % 2 = 1 := by
        rcases c with ⟨c, _⟩ | ⟨c, _⟩ <;> omega
      have HB := Lib.hid (ref_bits_double s m q hs hodd (by omega) (by omega))
      have HW := Lib.hid (fun z ok (hb : BitsTo 11 52 0 s m q z ok) => bits_wide .single (HX.out ()) hv rfl hm0 hb)
      clear hv hs hm hq hp a b c hm0 hodd
      generalize (s : Int) = sl at *
      generalize (m : Int) = ml at *
      generalize (q : Int) - 1074 = pl at *
      rw [show ((0 : Nat) : Int) = 0 from rfl]
      go_wp2_with fail
      refine (HB.out _).mono ?_
      rintro e w2 ⟨⟨y, ok, rfl, hb⟩, S2⟩
      have HW := Lib.hid (HW.out y ok hb)
      clear hb
      generalize hy : (y : Int) = yl at *
      have HY := Lib.hid (fun _ : Unit => hy)
      clear hy
      go_wp2_with fail
      refine bodyPost_ret (results_tmp2 rfl _ _ _) rfl ?_
      exact ⟨pair_post HW.out (HY.out ()).symm, HS1.out.trans (S2.mono HS1.out.size)⟩
set_option maxHeartbeats 2000000 in
theorem ref_Widen_double (x : Nat) (h : x < 2 ^ (1 + 11 + 52)) (w : World) :
    Calls Try.prog 32 #[.int .u64 x, .int .i64 8] w fun e w' => PairPost (Wide 11 52 0 x) e ∧ Below w.heap.size w w' := by
  have q0 : (x : Int) < 18446744073709551616 := by omega
  have HV := Lib.hid (ref_value_double x h)
  have HX := Lib.hid (fun _ : Unit => h)
  generalize (x : Int) = z at *
  clear h
  go_enter Try.func32, Try.ntmps32
  go_wp2_with fail
  refine (HV.out _).mono ?_
  rintro e w1 ⟨s, m, q, k, p, rfl, hv, hs, hm, hq, hp, S1⟩
  have HS1 := Lib.hid S1
  clear HV S1
  have hv0 := hv
  rcases hv0 with ⟨rfl, a, b⟩ | ⟨rfl, a, b, c, rfl⟩ | ⟨rfl, a, b, c⟩
  · have HW := Lib.hid (widen_nan (O := 0) (HX.out ()) a)
    clear hv hs hm hq hp a b
    generalize (s : Int) = sl at *
    generalize (m : Int) = ml at *
    rw [show ((2 : Nat) : Int) = 2 from rfl]
    go_wp2_with fail
    refine bodyPost_ret (results_tmp2 rfl _ _ _) rfl ?_
    exact ⟨pair_post HW.out rfl, HS1.out⟩
  · have HW := widen_inf .double (HX.out ()) a b
    rw [← c] at HW
    have HW := Lib.hid HW
    have HB := Lib.hid (ref_bits_double_inf s 0 hs p)
    clear hv hs hm hq hp a b c
    generalize hy : ((finf 11 52 s : Nat) : Int) = y at *
    generalize (s : Int) = sl at *
    rw [show ((0 : Nat) : Int) = 0 from rfl] at *
    rw [show ((1 : Nat) : Int) = 1 from rfl]
    have HY := Lib.hid (fun _ : Unit => hy)
    clear hy
    go_wp2_with (go_at_call 45; refine (HB.out _).mono ?_; rintro e w' ⟨rfl, rfl⟩)
    refine bodyPost_ret (results_tmp2 rfl _ _ _) rfl ?_
    exact ⟨pair_post HW.out (HY.out ()).symm, HS1.out⟩
  · by_cases hm0 : m = 0
    · subst hm0
      obtain ⟨z1, z2⟩ := value_zero hv rfl
      have HW := widen_zero .double (HX.out ()) z1 z2
      rw [← b] at HW
      have HW := Lib.hid HW
      have HB := Lib.hid (ref_bits_double_zero s hs p)
      clear hv hs hm hq hp a b c z1 z2
      generalize hy : ((s * 2 ^ (11 + 52) : Nat) : Int) = y at *
      generalize (s : Int) = sl at *
      rw [show ((0 : Nat) : Int) = 0 from rfl]
      have HY := Lib.hid (fun _ : Unit => hy)
      clear hy
      go_wp2_with (go_at_call 45; refine (HB.out _).mono ?_; rintro e w' ⟨rfl, rfl⟩)
      refine bodyPost_ret (results_tmp2 rfl _ _ _) rfl ?_
      exact ⟨pair_post HW.out (HY.out ()).symm, HS1.out⟩
    · have hpp := hp rfl hm0
      subst hpp
      have hodd : m % 2 = 1 := by
        rcases c with ⟨c, _⟩ | ⟨c, _⟩ <;> omega
      have HB := Lib.hid (ref_bits_double s m q hs hodd (by omega) (by omega))
      have HW := Lib.hid (fun z ok (hb : BitsTo 11 52 0 s m q z ok) => bits_wide .double (HX.out ()) hv rfl hm0 hb)
      clear hv hs hm hq hp a b c hm0 hodd
      generalize (s : Int) = sl at *
      generalize (m : Int) = ml at *
      generalize (q : Int) - 1074 = pl at *
      rw [show ((0 : Nat) : Int) = 0 from rfl]
      go_wp2_with fail
      refine (HB.out _).mono ?_
      rintro e w2 ⟨⟨y, ok, rfl, hb⟩, S2⟩
      have HW := Lib.hid (HW.out y ok hb)
      clear hb
      generalize hy : (y : Int) = yl at *
      have HY := Lib.hid (fun _ : Unit => hy)
      clear hy
      go_wp2_with fail
      refine bodyPost_ret (results_tmp2 rfl _ _ _) rfl ?_
      exact ⟨pair_post HW.out (HY.out ()).symm, HS1.out.trans (S2.mono HS1.out.size)⟩
end Go.Proofs.Ytchhbcmkhbfpoaa

/- The shortest float: of the document, of the code. -/
namespace Go.Proofs.Ytchhbcmkhbfpoaa
open Go.RowKit
set_option maxHeartbeats 2000000 in
theorem ref_Shortest (x : Nat) (h : x < 2 ^ (1 + 11 + 52)) (w : World) :
    Calls Try.prog 56 #[.int .u64 x] w fun e w' => SPost (Shortest x) e ∧ Below w.heap.size w w' := by
  have HV := Lib.hid (ref_value_double x h)
  have HX := Lib.hid (fun _ : Unit => h)
  generalize hx : (x : Int) = z at *
  have HZ := Lib.hid (fun _ : Unit => hx)
  clear h hx
  go_enter Try.func56, Try.ntmps56
  go_wp2_with fail
  refine (HV.out _).mono ?_
  rintro e w1 ⟨s, m, q, k, p, rfl, hv, hs, hm, hq, hp, S1⟩
  have HS1 := Lib.hid S1
  clear HV S1
  have hv0 := hv
  rcases hv0 with ⟨rfl, a, b⟩ | ⟨rfl, a, b, c, rfl⟩ | ⟨rfl, a, b, c⟩
  · have HW := Lib.hid (sh_nan a)
    clear hv hs hm hq hp a b
    generalize (s : Int) = sl at *
    generalize (m : Int) = ml at *
    rw [show ((2 : Nat) : Int) = 2 from rfl]
    go_wp2_with fail
    refine bodyPost_ret (results_tmp2 rfl _ _ _) rfl ?_
    exact ⟨s_post HW.out rfl rfl, HS1.out⟩
  · have HW := sh_inf (HX.out ()) a b
    rw [← c] at HW
    have HW := Lib.hid HW
    have HB := Lib.hid (ref_bits_half_inf s 0 hs p)
    clear hv hs hm hq hp a b c
    generalize hy : ((finf 5 10 s : Nat) : Int) = y at *
    generalize (s : Int) = sl at *
    rw [show ((0 : Nat) : Int) = 0 from rfl] at *
    rw [show ((1 : Nat) : Int) = 1 from rfl]
    have HY := Lib.hid (fun _ : Unit => hy)
    clear hy
    go_wp2_with (go_at_call 45; refine (HB.out _).mono ?_; rintro e w' ⟨rfl, rfl⟩)
    refine bodyPost_ret (results_tmp2 rfl _ _ _) rfl ?_
    exact ⟨s_post HW.out (HY.out ()).symm rfl, HS1.out⟩
  · by_cases hm0 : m = 0
    · subst hm0
      obtain ⟨z1, z2⟩ := value_zero hv rfl
      have HW := sh_zero (HX.out ()) z1 z2
      rw [← b] at HW
      have HW := Lib.hid HW
      have HB := Lib.hid (ref_bits_half_zero s hs p)
      clear hv hs hm hq hp a b c z1 z2
      generalize hy : ((s * 2 ^ (5 + 10) : Nat) : Int) = y at *
      generalize (s : Int) = sl at *
      rw [show ((0 : Nat) : Int) = 0 from rfl]
      have HY := Lib.hid (fun _ : Unit => hy)
      clear hy
      go_wp2_with (go_at_call 45; refine (HB.out _).mono ?_; rintro e w' ⟨rfl, rfl⟩)
      refine bodyPost_ret (results_tmp2 rfl _ _ _) rfl ?_
      exact ⟨s_post HW.out (HY.out ()).symm rfl, HS1.out⟩
    · have hpp := hp rfl hm0
      subst hpp
      have hodd : m % 2 = 1 := by
        rcases c with ⟨c, _⟩ | ⟨c, _⟩ <;> omega
      have HB := Lib.hid (ref_bits_half s m q hs hodd (by omega) (by omega))
      have HC := Lib.hid (ref_bits_single s m q hs hodd (by omega) (by omega))
      have HW := Lib.hid (fun z ok (hb : BitsTo 5 10 1050 s m q z ok) => bits_narrow .half (HX.out ()) hv rfl hm0 hb)
      have HU := Lib.hid (fun z ok (hb : BitsTo 8 23 925 s m q z ok) => bits_narrow .single (HX.out ()) hv rfl hm0 hb)
      have HN : Hid (¬ FNan 11 52 x) := Lib.hid (fun hn => by have := hn.1; omega)
      clear hv hs hm hq hp a b c hm0 hodd
      generalize (s : Int) = sl at *
      generalize (m : Int) = ml at *
      generalize (q : Int) - 1074 = pl at *
      rw [show ((0 : Nat) : Int) = 0 from rfl]
      go_wp2_with fail
      refine (HB.out _).mono ?_
      rintro e w2 ⟨⟨y, ok, rfl, hb⟩, S2⟩
      have HW := HW.out y ok hb
      have HS2 := Lib.hid (HS1.out.trans (S2.mono HS1.out.size))
      clear hb S2
      generalize hy : (y : Int) = yl at *
      have HY := Lib.hid (fun _ : Unit => hy)
      clear hy
      rcases HW with ⟨rfl, hw⟩ | ⟨rfl, hw⟩
      · have HR := Lib.hid (show Shortest x y 2 from Or.inr ⟨HN.out, Or.inl ⟨rfl, hw⟩⟩)
        clear hw
        go_wp2_with fail
        refine bodyPost_ret (results_tmp2 rfl _ _ _) rfl ?_
        exact ⟨s_post HR.out (HY.out ()).symm rfl, HS2.out⟩
      · have HNO := Lib.hid (fun _ : Unit => hw)
        clear hw
        go_wp2_with fail
        refine (HC.out _).mono ?_
        rintro e w3 ⟨⟨y2, ok, rfl, hb⟩, S3⟩
        have HU := HU.out y2 ok hb
        have HS3 := Lib.hid (HS2.out.trans (S3.mono HS2.out.size))
        clear hb S3
        generalize hy : (y2 : Int) = yl2 at *
        have HY2 := Lib.hid (fun _ : Unit => hy)
        clear hy
        rcases HU with ⟨rfl, hw⟩ | ⟨rfl, hw⟩
        · have HR := Lib.hid (show Shortest x y2 4 from Or.inr ⟨HN.out, Or.inr (Or.inl ⟨rfl, hw, HNO.out ()⟩)⟩)
          clear hw
          go_wp2_with fail
          refine bodyPost_ret (results_tmp2 rfl _ _ _) rfl ?_
          exact ⟨s_post HR.out (HY2.out ()).symm rfl, HS3.out⟩
        · have HR := Lib.hid (show Shortest x x 8 from Or.inr ⟨HN.out, Or.inr (Or.inr ⟨rfl, rfl, HNO.out (), hw⟩)⟩)
          clear hw
          go_wp2_with fail
          refine bodyPost_ret (results_tmp2 rfl _ _ _) rfl ?_
          exact ⟨s_post HR.out (HZ.out ()).symm rfl, HS3.out⟩

/-- What the code's loop knows ahead of the width i. -/
def LeftOff (x : Nat) (i : Int) : Prop := i = 2 ∨ (i = 4 ∧ ∀ y, ¬ Wide 5 10 1050 y x) ∨ (i = 8 ∧ (∀ y, ¬ Wide 5 10 1050 y x) ∧ ∀ y, ¬ Wide 8 23 925 y x)
set_option maxHeartbeats 4000000 in
theorem float_Shortest (x : Nat) (h : x < 2 ^ 64) (w : World) :
    Calls Try.prog 90 #[.int .u64 x] w fun e w' => SPost (Shortest x) e ∧ Below w.heap.size w w' := by
  have HNa := Lib.hid (float_NaN x h)
  by_cases hn : FNan 11 52 x
  · have HR := Lib.hid (sh_nan hn)
    rw [show decide (FNan 11 52 x) = true by simp [hn]] at HNa
    clear hn h
    generalize (x : Int) = z at *
    go_enter Try.func90, Try.ntmps90
    go_wp2_with (go_at_call 94; refine (HNa.out _).mono ?_; rintro e w1 ⟨rfl, S1⟩)
    refine bodyPost_ret (results_tmp2 rfl _ _ _) rfl ?_
    exact ⟨s_post HR.out rfl rfl, S1⟩
  · rw [show decide (FNan 11 52 x) = false by simp [hn]] at HNa
    have HN := Lib.hid hn
    have HX := Lib.hid (fun _ : Unit => h)
    have H2 := Lib.hid (float_narrow_half x h hn)
    have H4 := Lib.hid (float_narrow_single x h hn)
    generalize hx : (x : Int) = z at *
    have HZ := Lib.hid (fun _ : Unit => hx)
    clear hn h hx
    go_enter Try.func90, Try.ntmps90
    go_wp2_with (go_at_call 94; refine (HNa.out _).mono ?_; rintro e w1 ⟨rfl, S1⟩)
    have HS1 := Lib.hid S1
    clear S1
    go_loopw [4] (fun i wr => ∃ n : Int, i = .int .i64 n ∧ LeftOff x n ∧ Below w.heap.size w wr) (fun i _ => (8 - intOf i).toNat)
    case atStart => exact ⟨2, rfl, Or.inl rfl, HS1.out⟩
    case round =>
      obtain ⟨n, rfl, hl, S2⟩ := hrel
      have HS2 := Lib.hid S2
      clear S2
      rcases hl with rfl | ⟨rfl, hl⟩ | ⟨rfl, hl⟩
      · go_wp2_with fail
        refine (H2.out _).mono ?_
        rintro e w2 ⟨y, rfl, hy, hw, S3⟩
        have HWI := Lib.hid (float_Widen_half y hy)
        have HW := Lib.hid (fun _ : Unit => hw)
        have HS3 := Lib.hid (HS2.out.trans (S3.mono HS2.out.size))
        clear hy hw S3
        generalize hyl : (y : Int) = yl at *
        have HY := Lib.hid (fun _ : Unit => hyl)
        clear hyl
        go_wp2_with fail
        refine (HWI.out _).mono ?_
        rintro e w3 ⟨b, rfl, hb, S4⟩
        have HS4 := Lib.hid (HS3.out.trans (S4.mono HS3.out.size))
        by_cases hbx : b = x
        · have HR := Lib.hid (show Shortest x y 2 from Or.inr ⟨HN.out, Or.inl ⟨rfl, hbx ▸ hb⟩⟩)
          have hbz : (b : Int) = z := by rw [hbx]; exact HZ.out ()
          rw [hbz]
          clear hb S4 hbx hbz
          go_wp2_with fail
          refine bodyPost_ret (results_tmp2 rfl _ _ _) rfl ?_
          exact ⟨s_post HR.out (HY.out ()).symm rfl, HS4.out⟩
        · have HNO : Hid (∀ y', ¬ Wide 5 10 1050 y' x) := Lib.hid (fun y' hw' => hbx (wide_fun .half hb (by rw [HW.out () y' hw']; exact hw')))
          have hbz : ((b : Int) == z) = false := by
            have := HZ.out ()
            simp
            omega
          clear hb S4 hbx
          generalize (b : Int) = bl at *
          go_wp2_with fail
          go_roundw
          case rel => exact ⟨4, rfl, Or.inr (Or.inl ⟨rfl, HNO.out⟩), HS4.out⟩
          case measure => simp [intOf]
      · have HL := Lib.hid (fun _ : Unit => hl)
        clear hl
        go_wp2_with fail
        refine (H4.out _).mono ?_
        rintro e w2 ⟨y, rfl, hy, hw, S3⟩
        have HWI := Lib.hid (float_Widen_single y hy)
        have HW := Lib.hid (fun _ : Unit => hw)
        have HS3 := Lib.hid (HS2.out.trans (S3.mono HS2.out.size))
        clear hy hw S3
        generalize hyl : (y : Int) = yl at *
        have HY := Lib.hid (fun _ : Unit => hyl)
        clear hyl
        go_wp2_with fail
        refine (HWI.out _).mono ?_
        rintro e w3 ⟨b, rfl, hb, S4⟩
        have HS4 := Lib.hid (HS3.out.trans (S4.mono HS3.out.size))
        by_cases hbx : b = x
        · have HR := Lib.hid (show Shortest x y 4 from Or.inr ⟨HN.out, Or.inr (Or.inl ⟨rfl, hbx ▸ hb, HL.out ()⟩)⟩)
          have hbz : (b : Int) = z := by rw [hbx]; exact HZ.out ()
          rw [hbz]
          clear hb S4 hbx hbz
          go_wp2_with fail
          refine bodyPost_ret (results_tmp2 rfl _ _ _) rfl ?_
          exact ⟨s_post HR.out (HY.out ()).symm rfl, HS4.out⟩
        · have HNO : Hid (∀ y', ¬ Wide 8 23 925 y' x) := Lib.hid (fun y' hw' => hbx (wide_fun .single hb (by rw [HW.out () y' hw']; exact hw')))
          have hbz : ((b : Int) == z) = false := by
            have := HZ.out ()
            simp
            omega
          clear hb S4 hbx
          generalize (b : Int) = bl at *
          go_wp2_with fail
          go_roundw
          case rel => exact ⟨8, rfl, Or.inr (Or.inr ⟨rfl, HL.out (), HNO.out⟩), HS4.out⟩
          case measure => simp [intOf]
      · have HR := Lib.hid (show Shortest x x 8 from Or.inr ⟨HN.out, Or.inr (Or.inr ⟨rfl, rfl, hl⟩)⟩)
        clear hl
        go_wp2_with fail
        refine bodyPost_ret (results_tmp2 rfl _ _ _) rfl ?_
        exact ⟨s_post HR.out (HZ.out ()).symm rfl, HS2.out⟩
end Go.Proofs.Ytchhbcmkhbfpoaa

/- Floats: any width; whether a form is the shortest one. -/
namespace Go.Proofs.Ytchhbcmkhbfpoaa
open Go.RowKit
def WPost (W : Int) (x : Nat) (e : Ending) : Prop := (∃ z : Nat, e = .returned (.tuple #[.int .u64 z, .bool true]) ∧ Wd W x z) ∨ (e = .returned (.tuple #[.int .u64 0, .bool false]) ∧ ∀ z, ¬ Wd W x z)
theorem no_half {x : Nat} (h : 65536 ≤ x) (z : Nat) : ¬ Wd 2 x z := by
  rintro (⟨_, a⟩ | ⟨a, _⟩ | ⟨a, _⟩)
  · have := a.1; omega
  · omega
  · omega
theorem no_single {x : Nat} (h : 4294967296 ≤ x) (z : Nat) : ¬ Wd 4 x z := by
  rintro (⟨a, _⟩ | ⟨_, a⟩ | ⟨a, _⟩)
  · omega
  · have := a.1; omega
  · omega
theorem no_other {W : Int} {x : Nat} (h2 : W ≠ 2) (h4 : W ≠ 4) (h8 : W ≠ 8) (z : Nat) : ¬ Wd W x z := by
  rintro (⟨a, _⟩ | ⟨a, _⟩ | ⟨a, _⟩) <;> omega
theorem float_Widen_all (x : Nat) (hx : x < 2 ^ 64) (W : Int) (w : World) :
    Calls Try.prog 55 #[.int .u64 x, .int .i64 W] w fun e w' => WPost W x e ∧ Below w.heap.size w w' := by
  by_cases h2 : W = 2
  · subst h2
    by_cases h : x < 2 ^ (1 + 5 + 10)
    · exact (float_Widen_half x h w).mono fun e w' ⟨z, a, b, c⟩ => ⟨Or.inl ⟨z, a, Or.inl ⟨rfl, b⟩⟩, c⟩
    · exact (float_Widen_half_not x hx (by omega) w).mono fun e w' ⟨a, b⟩ => ⟨Or.inr ⟨a, no_half (by omega)⟩, b⟩
  by_cases h4 : W = 4
  · subst h4
    by_cases h : x < 2 ^ (1 + 8 + 23)
    · exact (float_Widen_single x h w).mono fun e w' ⟨z, a, b, c⟩ => ⟨Or.inl ⟨z, a, Or.inr (Or.inl ⟨rfl, b⟩)⟩, c⟩
    · exact (float_Widen_single_not x hx (by omega) w).mono fun e w' ⟨a, b⟩ => ⟨Or.inr ⟨a, no_single (by omega)⟩, b⟩
  by_cases h8 : W = 8
  · subst h8
    exact (float_Widen_double x hx w).mono fun e w' ⟨z, a, b, c⟩ => ⟨Or.inl ⟨z, a, Or.inr (Or.inr ⟨rfl, b⟩)⟩, c⟩
  · exact (float_Widen_other x W h2 h4 h8 w).mono fun e w' ⟨a, b⟩ => ⟨Or.inr ⟨a, no_other h2 h4 h8⟩, b⟩
theorem ref_Widen_all (x : Nat) (hx : x < 2 ^ 64) (W : Int) (w : World) :
    Calls Try.prog 32 #[.int .u64 x, .int .i64 W] w fun e w' => WPost W x e ∧ Below w.heap.size w w' := by
  by_cases h2 : W = 2
  · subst h2
    by_cases h : x < 2 ^ (1 + 5 + 10)
    · exact (ref_Widen_half x h w).mono fun e w' ⟨⟨z, a, b⟩, c⟩ => ⟨Or.inl ⟨z, a, Or.inl ⟨rfl, b⟩⟩, c⟩
    · exact (ref_Widen_half_not x (by omega) w).mono fun e w' ⟨a, b⟩ => ⟨Or.inr ⟨a, no_half (by omega)⟩, b⟩
  by_cases h4 : W = 4
  · subst h4
    by_cases h : x < 2 ^ (1 + 8 + 23)
    · exact (ref_Widen_single x h w).mono fun e w' ⟨⟨z, a, b⟩, c⟩ => ⟨Or.inl ⟨z, a, Or.inr (Or.inl ⟨rfl, b⟩)⟩, c⟩
    · exact (ref_Widen_single_not x (by omega) w).mono fun e w' ⟨a, b⟩ => ⟨Or.inr ⟨a, no_single (by omega)⟩, b⟩
  by_cases h8 : W = 8
  · subst h8
    exact (ref_Widen_double x hx w).mono fun e w' ⟨⟨z, a, b⟩, c⟩ => ⟨Or.inl ⟨z, a, Or.inr (Or.inr ⟨rfl, b⟩)⟩, c⟩
  · exact (ref_Widen_other x W h2 h4 h8 w).mono fun e w' ⟨a, b⟩ => ⟨Or.inr ⟨a, no_other h2 h4 h8⟩, b⟩

def IsShort (W : Int) (x : Nat) : Prop := ∃ z v : Nat, Wd W x z ∧ Shortest z x v ∧ (v : Int) = W
def BPost (P : Prop) (e : Ending) : Prop := ∃ b : Bool, e = .returned (.bool b) ∧ (b = true ↔ P)
theorem b_yes {P : Prop} (h : P) : BPost P (.returned (.bool true)) := ⟨true, rfl, by simp [h]⟩
theorem b_no {P : Prop} (h : ¬ P) : BPost P (.returned (.bool false)) := ⟨false, rfl, by simp [h]⟩
set_option maxHeartbeats 1000000 in
theorem float_Short (x : Nat) (hx : x < 2 ^ 64) (W : Int) (w : World) :
    Calls Try.prog 80 #[.int .u64 x, .int .i64 W] w fun e w' => BPost (IsShort W x) e ∧ Below w.heap.size w w' := by
  have HW := Lib.hid (float_Widen_all x hx W)
  generalize hxl : (x : Int) = xl at *
  have HX := Lib.hid (fun _ : Unit => hxl)
  clear hx hxl
  go_enter Try.func80, Try.ntmps80
  go_wp2_with fail
  refine (HW.out _).mono ?_
  rintro e w1 ⟨⟨z, rfl, hz⟩ | ⟨rfl, hz⟩, S1⟩
  · have HS := Lib.hid (float_Shortest z (wd_lt hz))
    have HZ := Lib.hid (fun _ : Unit => hz)
    have HS1 := Lib.hid S1
    clear hz S1
    generalize (z : Int) = zl at *
    go_wp2_with fail
    refine (HS.out _).mono ?_
    rintro e w2 ⟨⟨y, v, rfl, hs⟩, S2⟩
    have HS2 := Lib.hid (HS1.out.trans (S2.mono HS1.out.size))
    clear S2
    by_cases hyx : y = x
    · have e1 : (y : Int) = xl := by rw [hyx]; exact HX.out ()
      rw [e1]
      by_cases hvw : (v : Int) = W
      · have HR := Lib.hid (show IsShort W x from ⟨z, v, HZ.out (), hyx ▸ hs, hvw⟩)
        rw [hvw]
        clear hs hyx e1 hvw
        go_wp2_with fail
        refine bodyPost_ret (results_tmp rfl _ _ _) rfl ?_
        exact ⟨b_yes HR.out, HS2.out⟩
      · have HR : Hid (¬ IsShort W x) := Lib.hid (by
          rintro ⟨z', v', a, b, c⟩
          have := wd_fun a (HZ.out ())
          subst this
          have := shortest_fun b hs
          omega)
        have hvf : ((v : Int) == W) = false := by simp [hvw]
        clear hs hyx e1 hvw
        generalize (v : Int) = vl at *
        go_wp2_with fail
        refine bodyPost_ret (results_tmp rfl _ _ _) rfl ?_
        exact ⟨b_no HR.out, HS2.out⟩
    · have HR : Hid (¬ IsShort W x) := Lib.hid (by
        rintro ⟨z', v', a, b, c⟩
        have := wd_fun a (HZ.out ())
        subst this
        exact hyx (shortest_fun hs b).1)
      have hyf : ((y : Int) == xl) = false := by
        have := HX.out ()
        simp
        omega
      clear hs hyx
      generalize (v : Int) = vl at *
      generalize (y : Int) = yl at *
      go_wp2_with fail
      refine bodyPost_ret (results_tmp rfl _ _ _) rfl ?_
      exact ⟨b_no HR.out, HS2.out⟩
  · have HR : Hid (¬ IsShort W x) := Lib.hid (by
      rintro ⟨z', v', a, b, c⟩
      exact hz z' a)
    clear hz
    go_wp2_with fail
    refine bodyPost_ret (results_tmp rfl _ _ _) rfl ?_
    exact ⟨b_no HR.out, S1⟩
set_option maxHeartbeats 1000000 in
theorem ref_Short (x : Nat) (hx : x < 2 ^ 64) (W : Int) (w : World) :
    Calls Try.prog 43 #[.int .u64 x, .int .i64 W] w fun e w' => BPost (IsShort W x) e ∧ Below w.heap.size w w' := by
  have HW := Lib.hid (ref_Widen_all x hx W)
  generalize hxl : (x : Int) = xl at *
  have HX := Lib.hid (fun _ : Unit => hxl)
  clear hx hxl
  go_enter Try.func43, Try.ntmps43
  go_wp2_with fail
  refine (HW.out _).mono ?_
  rintro e w1 ⟨⟨z, rfl, hz⟩ | ⟨rfl, hz⟩, S1⟩
  · have HS := Lib.hid (ref_Shortest z (wd_lt hz))
    have HZ := Lib.hid (fun _ : Unit => hz)
    have HS1 := Lib.hid S1
    clear hz S1
    generalize (z : Int) = zl at *
    go_wp2_with fail
    refine (HS.out _).mono ?_
    rintro e w2 ⟨⟨y, v, rfl, hs⟩, S2⟩
    have HS2 := Lib.hid (HS1.out.trans (S2.mono HS1.out.size))
    clear S2
    by_cases hyx : y = x
    · have e1 : (y : Int) = xl := by rw [hyx]; exact HX.out ()
      rw [e1]
      by_cases hvw : (v : Int) = W
      · have HR := Lib.hid (show IsShort W x from ⟨z, v, HZ.out (), hyx ▸ hs, hvw⟩)
        rw [hvw]
        clear hs hyx e1 hvw
        go_wp2_with fail
        refine bodyPost_ret (results_tmp rfl _ _ _) rfl ?_
        exact ⟨b_yes HR.out, HS2.out⟩
      · have HR : Hid (¬ IsShort W x) := Lib.hid (by
          rintro ⟨z', v', a, b, c⟩
          have := wd_fun a (HZ.out ())
          subst this
          have := shortest_fun b hs
          omega)
        have hvf : ((v : Int) == W) = false := by simp [hvw]
        clear hs hyx e1 hvw
        generalize (v : Int) = vl at *
        go_wp2_with fail
        refine bodyPost_ret (results_tmp rfl _ _ _) rfl ?_
        exact ⟨b_no HR.out, HS2.out⟩
    · have HR : Hid (¬ IsShort W x) := Lib.hid (by
        rintro ⟨z', v', a, b, c⟩
        have := wd_fun a (HZ.out ())
        subst this
        exact hyx (shortest_fun hs b).1)
      have hyf : ((y : Int) == xl) = false := by
        have := HX.out ()
        simp
        omega
      clear hs hyx
      generalize (v : Int) = vl at *
      generalize (y : Int) = yl at *
      go_wp2_with fail
      refine bodyPost_ret (results_tmp rfl _ _ _) rfl ?_
      exact ⟨b_no HR.out, HS2.out⟩
  · have HR : Hid (¬ IsShort W x) := Lib.hid (by
      rintro ⟨z', v', a, b, c⟩
      exact hz z' a)
    clear hz
    go_wp2_with fail
    refine bodyPost_ret (results_tmp rfl _ _ _) rfl ?_
    exact ⟨b_no HR.out, S1⟩
end Go.Proofs.Ytchhbcmkhbfpoaa

/- Package head: plain numbers. -/
namespace Go.Proofs.Ytchhbcmkhbfpoaa

/-- How many bytes a number needs as an argument. -/
def leastW (a : Int) : Int := if a < 24 then 0 else if a < 256 then 1 else if a < 65536 then 2 else if a < 4294967296 then 4 else 8
/-- A reader's state. -/
structure HQ where
  major : Int
  width : Int
  arg : Int
  left : Int
  opn : Bool
  wrong : Int
def hcells (q : HQ) : Array Value := #[.int .i64 q.major, .int .i64 q.width, .int .u64 q.arg, .int .i64 q.left, .bool q.opn, .int .i64 q.wrong]
def hq0 : HQ := ⟨0, 0, 0, 0, false, 0⟩
/-- How many bytes the info tells of. -/
def hwid (i : Int) : Int := if i = 24 then 1 else if i = 25 then 2 else if i = 26 then 4 else if i = 27 then 8 else 0
/-- What is wrong with a first byte. -/
def hbad (m i : Int) : Int := if i < 28 then 0 else if i = 31 ∧ 2 ≤ m ∧ m ≤ 5 then 5 else 2
def hbeg (m i : Int) : HQ := if 28 ≤ i then ⟨m, 0, 0, 0, true, hbad m i⟩ else if i < 24 then ⟨m, 0, i, 0, true, 0⟩ else ⟨m, hwid i, 0, hwid i, true, 0⟩
def hbegin (c : Int) : HQ := hbeg (c / 32) (c % 32)
def hfollow (q : HQ) (c : Int) : HQ :=
  ⟨q.major, q.width, (q.arg * 256 + c) % 18446744073709551616, q.left - 1, q.opn, if q.major = 7 ∧ q.width = 1 ∧ (q.arg * 256 + c) % 18446744073709551616 < 32 then 2 else q.wrong⟩
open Classical in
noncomputable def fshort (W a : Int) : Bool := decide (IsShort W a.toNat)
noncomputable def hshort (m W a : Int) : Bool := if m = 7 ∧ 1 < W then fshort W a else W == leastW a
/-- A step: the state behind it, whether the head ended, the error. -/
def hmid (q : HQ) (c : Int) : HQ := if q.wrong ≠ 0 then q else if q.opn = true then hfollow q c else hbegin c
def HQ.more (q : HQ) : Prop := q.wrong ≠ 0 ∨ 0 < q.left
instance (q : HQ) : Decidable q.more := inferInstanceAs (Decidable (_ ∨ _))
def hstep (q : HQ) (c : Int) : HQ := if (hmid q c).more then hmid q c else { hmid q c with opn := false }
def hdone (q : HQ) (c : Int) : Bool := !decide (hmid q c).more
noncomputable def herr (q : HQ) (c : Int) : Int := if (hmid q c).more then (hmid q c).wrong else if hshort (hmid q c).major (hmid q c).width (hmid q c).arg then 0 else 5
/-- A state in which a step can be taken. -/
def HOk (q : HQ) : Prop := 0 ≤ q.arg ∧ q.arg < 18446744073709551616 ∧ 0 ≤ q.left ∧ q.left ≤ 8

/-- The head at the front of a list, as the document's answer tells it: major type, width, argument, how many bytes, the wrong one's place, the error. -/
structure HR where
  major : Int
  width : Int
  arg : Int
  many : Int
  place : Int
  e : Int
def hnone (place e : Int) : HR := ⟨0, 0, 0, 0, place, e⟩
def harg (L : List Int) (W : Int) : Int := big 18446744073709551616 (pad (L.drop 1) W.toNat)
noncomputable def hlong (m W a : Int) : HR := ⟨m, W, a, 1 + W, if hshort m W a then -1 else W, if hshort m W a then 0 else 5⟩
noncomputable def hread (L : List Int) : HR :=
  if L.length = 0 then hnone 0 9
  else if 28 ≤ L.getD 0 0 % 32 then hnone 0 (hbad (L.getD 0 0 / 32) (L.getD 0 0 % 32))
  else if L.getD 0 0 % 32 < 24 then ⟨L.getD 0 0 / 32, 0, L.getD 0 0 % 32, 1, -1, 0⟩
  else if (L.length : Int) ≤ hwid (L.getD 0 0 % 32) then hnone L.length 9
  else if L.getD 0 0 / 32 = 7 ∧ hwid (L.getD 0 0 % 32) = 1 ∧ harg L (hwid (L.getD 0 0 % 32)) < 32 then hnone 1 2
  else hlong (L.getD 0 0 / 32) (hwid (L.getD 0 0 % 32)) (harg L (hwid (L.getD 0 0 % 32)))
theorem hwid_of (i : Int) (h : 24 ≤ i) (h' : i < 28) : (i = 24 ∧ hwid i = 1) ∨ (i = 25 ∧ hwid i = 2) ∨ (i = 26 ∧ hwid i = 4) ∨ (i = 27 ∧ hwid i = 8) := by
  have : i = 24 ∨ i = 25 ∨ i = 26 ∨ i = 27 := by omega
  rcases this with rfl | rfl | rfl | rfl <;> simp [hwid]
theorem hbad_ne {m i : Int} (h : 28 ≤ i) : hbad m i = 5 ∨ hbad m i = 2 := by
  unfold hbad
  rw [if_neg (by omega)]
  split <;> simp
open Classical in
theorem BPost.eq {P : Prop} {e : Ending} (h : BPost P e) : e = .returned (.bool (decide P)) := by
  obtain ⟨b, rfl, hb⟩ := h
  by_cases hp : P
  · rw [hb.2 hp]; simp [hp]
  · have : b = false := by cases b <;> simp_all
    rw [this]; simp [hp]
end Go.Proofs.Ytchhbcmkhbfpoaa
