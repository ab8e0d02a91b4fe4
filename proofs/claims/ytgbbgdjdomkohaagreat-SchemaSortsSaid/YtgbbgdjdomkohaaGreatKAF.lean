/- Package float: Widen, NaN. -/
import Derived.Test.YtgbbgdjdomkohaaGreatKAE
namespace Go.Proofs.YtgbbgdjdomkohaaGreat
open Go.RowKit
theorem float_NaN (x : Nat) (hx : x < 18446744073709551616) (w : World) :
    Calls Tryz.prog 58 #[.int .u64 x] w fun e w' => e = .returned (.bool (decide (FNan 11 52 x))) ∧ Below w.heap.size w w' := by
  have h1 := Lib.hid (float_split .double x hx)
  have h2 := Lib.hid (float_isNaN .double (fsg 11 52 x) (fex 11 52 x) (ffr 52 x))
  have e : decide ((fex 11 52 x : Int) = 2047 ∧ (ffr 52 x : Int) ≠ 0) = decide (FNan 11 52 x) := by
    unfold FNan
    have : ((fex 11 52 x : Int) = 2047 ∧ (ffr 52 x : Int) ≠ 0) ↔ (fex 11 52 x = 2 ^ 11 - 1 ∧ ffr 52 x ≠ 0) := by omega
    simp only [this]
  rw [e] at h2
  go_enter Tryz.func58, Tryz.ntmps58
  go_wp2_with (first | (go_at_call 69; refine (h1.out _).mono ?_; rintro r w' ⟨rfl, S1⟩) | (go_at_call 68; refine (h2.out _).mono ?_; rintro r w'' ⟨rfl, S2⟩))
  go_ret
  exact ⟨rfl, S1.trans (S2.mono S1.size)⟩
set_option maxHeartbeats 1000000 in
theorem float_Widen_half_not (x : Nat) (hx : x < 18446744073709551616) (h : 65536 ≤ x) (w : World) :
    Calls Tryz.prog 74 #[.int .u64 x, .int .i64 2] w fun e w' => e = .returned (.tuple #[.int .u64 0, .bool false]) ∧ Below w.heap.size w w' := by
  have q0 : (0 : Int) ≤ x := by omega
  have q1 : ((x : Int) / 65536 == 0) = false := by simp; omega
  generalize (x : Int) = z at *
  clear h hx
  go_enter Tryz.func74, Tryz.ntmps74
  go_wp2_with fail
  go_ret2
  exact ⟨rfl, Below.refl _ _⟩
set_option maxHeartbeats 1000000 in
theorem float_Widen_half (x : Nat) (h : x < 2 ^ (1 + 5 + 10)) (w : World) :
    Calls Tryz.prog 74 #[.int .u64 x, .int .i64 2] w fun e w' => ∃ z : Nat, e = .returned (.tuple #[.int .u64 z, .bool true]) ∧ Wide 5 10 1050 x z ∧ Below w.heap.size w w' := by
  have q0 : (0 : Int) ≤ x := by omega
  have q1 : (x : Int) / 65536 = 0 := by omega
  have hs := Lib.hid (float_split .half x (by omega))
  have hi := Lib.hid (float_isNaN .half (fsg 5 10 x) (fex 5 10 x) (ffr 10 x))
  have e : decide ((fex 5 10 x : Int) = 31 ∧ (ffr 10 x : Int) ≠ 0) = decide (FNan 5 10 x) := by
    unfold FNan
    have : ((fex 5 10 x : Int) = 31 ∧ (ffr 10 x : Int) ≠ 0) ↔ (fex 5 10 x = 2 ^ 5 - 1 ∧ ffr 10 x ≠ 0) := by omega
    simp only [this]
  rw [e] at hi
  clear e
  unfold parts at hs hi
  by_cases hn : FNan 5 10 x
  · have HW := Lib.hid (widen_nan (O := 1050) h hn)
    rw [show decide (FNan 5 10 x) = true by simp [hn]] at hi
    clear hn
    generalize (fsg 5 10 x : Int) = s at hs hi
    generalize (fex 5 10 x : Int) = e at hs hi
    generalize (ffr 10 x : Int) = f at hs hi
    generalize (x : Int) = z at hs q0 q1 ⊢
    go_enter Tryz.func74, Tryz.ntmps74
    go_wp2_with (go_at_call 69; refine (hs.out _).mono ?_; rintro r w' ⟨rfl, S1⟩)
    have b0 : Blk (w'.alloc (.cells (parts s e f) 111)) w'.heap.size 111 (parts s e f) := Blk.fresh _ _ _
    have S : Below w.heap.size w (w'.alloc (.cells (parts s e f) 111)) := S1.alloc S1.size _
    unfold parts at b0 S
    generalize w'.alloc (.cells #[.int .u64 s, .int .i64 e, .int .u64 f] 111) = w2 at *
    generalize w'.heap.size = g at *
    refine (hi.out _).mono ?_
    rintro r w3 ⟨rfl, S2⟩
    have HS := Lib.hid (S.trans (S2.mono S.size))
    have B0 := Lib.hid (b0.on S2)
    clear S S1 S2 b0
    go_wp2_with fail
    go_ret2
    exact ⟨9221120237041090560, rfl, HW.out, HS.out⟩
  · have hd := Lib.hid (float_widened_half x h hn)
    have hsm := Lib.hid (f_small .half x).1
    rw [show decide (FNan 5 10 x) = false by simp [hn]] at hi
    unfold parts at hd
    clear hn
    generalize hsz : (fsg 5 10 x : Int) = s at hs hi hd
    generalize (fex 5 10 x : Int) = e at hs hi hd
    generalize (ffr 10 x : Int) = f at hs hi hd
    generalize (x : Int) = z at hs q0 q1 ⊢
    have HSZ := Lib.hid hsz
    clear hsz
    go_enter Tryz.func74, Tryz.ntmps74
    go_wp2_with (go_at_call 69; refine (hs.out _).mono ?_; rintro r w' ⟨rfl, S1⟩)
    have b0 : Blk (w'.alloc (.cells (parts s e f) 111)) w'.heap.size 111 (parts s e f) := Blk.fresh _ _ _
    have S : Below w.heap.size w (w'.alloc (.cells (parts s e f) 111)) := S1.alloc S1.size _
    unfold parts at b0 S
    generalize w'.alloc (.cells #[.int .u64 s, .int .i64 e, .int .u64 f] 111) = w2 at *
    generalize w'.heap.size = g at *
    refine (hi.out _).mono ?_
    rintro r w3 ⟨rfl, S2⟩
    have HS := Lib.hid (S.trans (S2.mono S.size))
    have B0 := Lib.hid (b0.on S2)
    clear S S1 S2 b0
    obtain ⟨c0, c1, c2, _⟩ := pblk B0.out
    go_wp2_with fail
    refine (hd.out _).mono ?_
    rintro r w4 ⟨e', f', rfl, he, hf, hW, S4⟩
    have HW := Lib.hid hW
    have HS := Lib.hid (HS.out.trans (S4.mono HS.out.size))
    have hj := float_join .double (fsg 5 10 x) e' f' hsm.out he hf
    unfold parts at hj
    rw [HSZ.out] at hj
    have HJ := Lib.hid hj
    clear hj hW S4 he hf
    generalize hz2 : (((fsg 5 10 x * 2 ^ (11 + 52) + e' * 2 ^ 52 + f' : Nat)) : Int) = z2 at HJ
    have HZ2 := Lib.hid hz2
    generalize (e' : Int) = ee at *
    generalize (f' : Int) = ff at *
    clear hz2 c0 c1 c2
    go_wp2_with (go_at_call 104; refine (HJ.out _).mono ?_; rintro r w5 ⟨rfl, S5⟩)
    go_ret2
    exact ⟨_, by rw [HZ2.out]; rfl, HW.out, HS.out.trans (S5.mono HS.out.size)⟩
set_option maxHeartbeats 1000000 in
theorem float_Widen_single_not (x : Nat) (hx : x < 18446744073709551616) (h : 4294967296 ≤ x) (w : World) :
    Calls Tryz.prog 74 #[.int .u64 x, .int .i64 4] w fun e w' => e = .returned (.tuple #[.int .u64 0, .bool false]) ∧ Below w.heap.size w w' := by
  have q0 : (0 : Int) ≤ x := by omega
  have q1 : ((x : Int) / 4294967296 == 0) = false := by simp; omega
  generalize (x : Int) = z at *
  clear h hx
  go_enter Tryz.func74, Tryz.ntmps74
  go_wp2_with fail
  go_ret2
  exact ⟨rfl, Below.refl _ _⟩
set_option maxHeartbeats 1000000 in
theorem float_Widen_single (x : Nat) (h : x < 2 ^ (1 + 8 + 23)) (w : World) :
    Calls Tryz.prog 74 #[.int .u64 x, .int .i64 4] w fun e w' => ∃ z : Nat, e = .returned (.tuple #[.int .u64 z, .bool true]) ∧ Wide 8 23 925 x z ∧ Below w.heap.size w w' := by
  have q0 : (0 : Int) ≤ x := by omega
  have q1 : (x : Int) / 4294967296 = 0 := by omega
  have hs := Lib.hid (float_split .single x (by omega))
  have hi := Lib.hid (float_isNaN .single (fsg 8 23 x) (fex 8 23 x) (ffr 23 x))
  have e : decide ((fex 8 23 x : Int) = 255 ∧ (ffr 23 x : Int) ≠ 0) = decide (FNan 8 23 x) := by
    unfold FNan
    have : ((fex 8 23 x : Int) = 255 ∧ (ffr 23 x : Int) ≠ 0) ↔ (fex 8 23 x = 2 ^ 8 - 1 ∧ ffr 23 x ≠ 0) := by omega
    simp only [this]
  rw [e] at hi
  clear e
  unfold parts at hs hi
  by_cases hn : FNan 8 23 x
  · have HW := Lib.hid (widen_nan (O := 925) h hn)
    rw [show decide (FNan 8 23 x) = true by simp [hn]] at hi
    clear hn
    generalize (fsg 8 23 x : Int) = s at hs hi
    generalize (fex 8 23 x : Int) = e at hs hi
    generalize (ffr 23 x : Int) = f at hs hi
    generalize (x : Int) = z at hs q0 q1 ⊢
    go_enter Tryz.func74, Tryz.ntmps74
    go_wp2_with (go_at_call 69; refine (hs.out _).mono ?_; rintro r w' ⟨rfl, S1⟩)
    have b0 : Blk (w'.alloc (.cells (parts s e f) 111)) w'.heap.size 111 (parts s e f) := Blk.fresh _ _ _
    have S : Below w.heap.size w (w'.alloc (.cells (parts s e f) 111)) := S1.alloc S1.size _
    unfold parts at b0 S
    generalize w'.alloc (.cells #[.int .u64 s, .int .i64 e, .int .u64 f] 111) = w2 at *
    generalize w'.heap.size = g at *
    refine (hi.out _).mono ?_
    rintro r w3 ⟨rfl, S2⟩
    have HS := Lib.hid (S.trans (S2.mono S.size))
    have B0 := Lib.hid (b0.on S2)
    clear S S1 S2 b0
    go_wp2_with fail
    go_ret2
    exact ⟨9221120237041090560, rfl, HW.out, HS.out⟩
  · have hd := Lib.hid (float_widened_single x h hn)
    have hsm := Lib.hid (f_small .single x).1
    rw [show decide (FNan 8 23 x) = false by simp [hn]] at hi
    unfold parts at hd
    clear hn
    generalize hsz : (fsg 8 23 x : Int) = s at hs hi hd
    generalize (fex 8 23 x : Int) = e at hs hi hd
    generalize (ffr 23 x : Int) = f at hs hi hd
    generalize (x : Int) = z at hs q0 q1 ⊢
    have HSZ := Lib.hid hsz
    clear hsz
    go_enter Tryz.func74, Tryz.ntmps74
    go_wp2_with (go_at_call 69; refine (hs.out _).mono ?_; rintro r w' ⟨rfl, S1⟩)
    have b0 : Blk (w'.alloc (.cells (parts s e f) 111)) w'.heap.size 111 (parts s e f) := Blk.fresh _ _ _
    have S : Below w.heap.size w (w'.alloc (.cells (parts s e f) 111)) := S1.alloc S1.size _
    unfold parts at b0 S
    generalize w'.alloc (.cells #[.int .u64 s, .int .i64 e, .int .u64 f] 111) = w2 at *
    generalize w'.heap.size = g at *
    refine (hi.out _).mono ?_
    rintro r w3 ⟨rfl, S2⟩
    have HS := Lib.hid (S.trans (S2.mono S.size))
    have B0 := Lib.hid (b0.on S2)
    clear S S1 S2 b0
    obtain ⟨c0, c1, c2, _⟩ := pblk B0.out
    go_wp2_with fail
    refine (hd.out _).mono ?_
    rintro r w4 ⟨e', f', rfl, he, hf, hW, S4⟩
    have HW := Lib.hid hW
    have HS := Lib.hid (HS.out.trans (S4.mono HS.out.size))
    have hj := float_join .double (fsg 8 23 x) e' f' hsm.out he hf
    unfold parts at hj
    rw [HSZ.out] at hj
    have HJ := Lib.hid hj
    clear hj hW S4 he hf
    generalize hz2 : (((fsg 8 23 x * 2 ^ (11 + 52) + e' * 2 ^ 52 + f' : Nat)) : Int) = z2 at HJ
    have HZ2 := Lib.hid hz2
    generalize (e' : Int) = ee at *
    generalize (f' : Int) = ff at *
    clear hz2 c0 c1 c2
    go_wp2_with (go_at_call 104; refine (HJ.out _).mono ?_; rintro r w5 ⟨rfl, S5⟩)
    go_ret2
    exact ⟨_, by rw [HZ2.out]; rfl, HW.out, HS.out.trans (S5.mono HS.out.size)⟩
end Go.Proofs.YtgbbgdjdomkohaaGreat
