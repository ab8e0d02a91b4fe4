/- Package float: Widen, NaN. -/
import Derived.Test.YtjelgoeamaejmaaGreatKAR
import Derived.Test.YtjelgoeamaejmaaGreatRows
import Derived.Test.YtjelgoeamaejmaaGreatKAB
import Derived.RegionTactic
namespace Go.Proofs.YtjelgoeamaejmaaGreat
open Go.RowKit
theorem float_NaN (x : Nat) (hx : x < 18446744073709551616) (w : World) :
    Calls Tryz.prog 69 #[.int .u64 x] w fun e w' => e = .returned (.bool (decide (FNan 11 52 x))) ∧ Below w.heap.size w w' := by
  have h1 := Lib.hid (float_split .double x hx)
  have h2 := Lib.hid (float_isNaN .double (fsg 11 52 x) (fex 11 52 x) (ffr 52 x))
  have e : decide ((fex 11 52 x : Int) = 2047 ∧ (ffr 52 x : Int) ≠ 0) = decide (FNan 11 52 x) := by
    unfold FNan
    have : ((fex 11 52 x : Int) = 2047 ∧ (ffr 52 x : Int) ≠ 0) ↔ (fex 11 52 x = 2 ^ 11 - 1 ∧ ffr 52 x ≠ 0) := by omega
    simp only [this]
  rw [e] at h2
  go_enter Tryz.func69, Tryz.ntmps69
  go_wp2_with (first | (go_at_call 85; refine (h1.out _).mono ?_; rintro r w' ⟨rfl, S1⟩) | (go_at_call 84; refine (h2.out _).mono ?_; rintro r w'' ⟨rfl, S2⟩))
  go_ret
  exact ⟨rfl, S1.trans (S2.mono S1.size)⟩
set_option maxHeartbeats 1000000 in
theorem float_Widen_half_not (x : Nat) (hx : x < 18446744073709551616) (h : 65536 ≤ x) (w : World) :
    Calls Tryz.prog 153 #[.int .u64 x, .int .i64 2] w fun e w' => e = .returned (.tuple #[.int .u64 0, .bool false]) ∧ Below w.heap.size w w' := by
  have q0 : (0 : Int) ≤ x := by omega
  have q1 : ((x : Int) / 65536 == 0) = false := by simp; omega
  generalize (x : Int) = z at *
  clear h hx
  go_enter Tryz.func153, Tryz.ntmps153
  go_wp2_with fail
  go_ret2
  exact ⟨rfl, Below.refl _ _⟩
set_option maxHeartbeats 1000000 in
theorem float_Widen_half (x : Nat) (h : x < 2 ^ (1 + 5 + 10)) (w : World) :
    Calls Tryz.prog 153 #[.int .u64 x, .int .i64 2] w fun e w' => ∃ z : Nat, e = .returned (.tuple #[.int .u64 z, .bool true]) ∧ Wide 5 10 1050 x z ∧ Below w.heap.size w w' := by
  have q0 : (0 : Int) ≤ x := by omega
  have q1 : (x : Int) / 65536 = 0 := by omega
  have hs := Lib.hid (float_split .half x (by omega))
  have hi := Lib.hid (float_isNaN .half (fsg 5 10 x) (fex 5 10 x) (ffr 10 x))
  have e : decide ((fex 5 10 x : Int) = 31 ∧ (ffr 10 x : Int) ≠ 0) = decide (FNan 5 10 x) := by
    unfold FNan
    have : ((fex 5 10 x : Int) = 31 ∧ (ffr 10 x : Int) ≠ 0) ↔ (fex 5 10 x = 2 ^ 5 - 1 ∧ ffr 10 x ≠ 0) := by omega
    simp only [this]
  rw [e] at hi
  clear e
  unfold parts at hs hi
  by_cases hn : FNan 5 10 x
  · have HW := Lib.hid (widen_nan (O := 1050) h hn)
    rw [show decide (FNan 5 10 x) = true by simp [hn]] at hi
    clear hn
    generalize (fsg 5 10 x : Int) = s at hs hi
    generalize (fex 5 10 x : Int) = e at hs hi
    generalize (ffr 10 x : Int) = f at hs hi
    generalize (x : Int) = z at hs q0 q1 ⊢
    go_enter Tryz.func153, Tryz.ntmps153
    go_wp2_with (go_at_call 85; refine (hs.out _).mono ?_; rintro r w' ⟨rfl, S1⟩)
    have b0 : Blk (w'.alloc (.cells (parts s e f) 116)) w'.heap.size 116 (parts s e f) := Blk.fresh _ _ _
    have S : Below w.heap.size w (w'.alloc (.cells (parts s e f) 116)) := S1.alloc S1.size _
    unfold parts at b0 S
    generalize w'.alloc (.cells #[.int .u64 s, .int .i64 e, .int .u64 f] 116) = w2 at *
    generalize w'.heap.size = g at *
    refine (hi.out _).mono ?_
    rintro r w3 ⟨rfl, S2⟩
    have HS := Lib.hid (S.trans (S2.mono S.size))
    have B0 := Lib.hid (b0.on S2)
    clear S S1 S2 b0
    go_wp2_with fail
    go_ret2
    exact ⟨9221120237041090560, rfl, HW.out, HS.out⟩
  · have hd := Lib.hid (float_widened_half x h hn)
    have hsm := Lib.hid (f_small .half x).1
    rw [show decide (FNan 5 10 x) = false by simp [hn]] at hi
    unfold parts at hd
    clear hn
    generalize hsz : (fsg 5 10 x : Int) = s at hs hi hd
    generalize (fex 5 10 x : Int) = e at hs hi hd
    generalize (ffr 10 x : Int) = f at hs hi hd
    generalize (x : Int) = z at hs q0 q1 ⊢
    have HSZ := Lib.hid hsz
    clear hsz
    go_enter Tryz.func153, Tryz.ntmps153
    go_wp2_with (go_at_call 85; refine (hs.out _).mono ?_; rintro r w' ⟨rfl, S1⟩)
    have b0 : Blk (w'.alloc (.cells (parts s e f) 116)) w'.heap.size 116 (parts s e f) := Blk.fresh _ _ _
    have S : Below w.heap.size w (w'.alloc (.cells (parts s e f) 116)) := S1.alloc S1.size _
    unfold parts at b0 S
    generalize w'.alloc (.cells #[.int .u64 s, .int .i64 e, .int .u64 f] 116) = w2 at *
    generalize w'.heap.size = g at *
    refine (hi.out _).mono ?_
    rintro r w3 ⟨rfl, S2⟩
    have HS := Lib.hid (S.trans (S2.mono S.size))
    have B0 := Lib.hid (b0.on S2)
    clear S S1 S2 b0
    obtain ⟨c0, c1, c2, _⟩ := pblk B0.out
    go_wp2_with fail
    refine (hd.out _).mono ?_
    rintro r w4 ⟨e', f', rfl, he, hf, hW, S4⟩
    have HW := Lib.hid hW
    have HS := Lib.hid (HS.out.trans (S4.mono HS.out.size))
    have hj := float_join .double (fsg 5 10 x) e' f' hsm.out he hf
    unfold parts at hj
    rw [HSZ.out] at hj
    have HJ := Lib.hid hj
    clear hj hW S4 he hf
    generalize hz2 : (((fsg 5 10 x * 2 ^ (11 + 52) + e' * 2 ^ 52 + f' : Nat)) : Int) = z2 at HJ
    have HZ2 := Lib.hid hz2
    generalize (e' : Int) = ee at *
    generalize (f' : Int) = ff at *
    clear hz2 c0 c1 c2
    go_wp2_with (go_at_call 165; refine (HJ.out _).mono ?_; rintro r w5 ⟨rfl, S5⟩)
    go_ret2
    exact ⟨_, by rw [HZ2.out]; rfl, HW.out, HS.out.trans (S5.mono HS.out.size)⟩
set_option maxHeartbeats 1000000 in
theorem float_Widen_single_not (x : Nat) (hx : x < 18446744073709551616) (h : 4294967296 ≤ x) (w : World) :
    Calls Tryz.prog 153 #[.int .u64 x, .int .i64 4] w fun e w' => e = .returned (.tuple #[.int .u64 0, .bool false]) ∧ Below w.heap.size w w' := by
  have q0 : (0 : Int) ≤ x := by omega
  have q1 : ((x : Int) / 4294967296 == 0) = false := by simp; omega
  generalize (x : Int) = z at *
  clear h hx
  go_enter Tryz.func153, Tryz.ntmps153
  go_wp2_with fail
  go_ret2
  exact ⟨rfl, Below.refl _ _⟩
set_option maxHeartbeats 1000000 in
theorem float_Widen_single (x : Nat) (h : x < 2 ^ (1 + 8 + 23)) (w : World) :
    Calls Tryz.prog 153 #[.int .u64 x, .int .i64 4] w fun e w' => ∃ z : Nat, e = .returned (.tuple #[.int .u64 z, .bool true]) ∧ Wide 8 23 925 x z ∧ Below w.heap.size w w' := by
  have q0 : (0 : Int) ≤ x := by omega
  have q1 : (x : Int) / 4294967296 = 0 := by omega
  have hs := Lib.hid (float_split .single x (by omega))
  have hi := Lib.hid (float_isNaN .single (fsg 8 23 x) (fex 8 23 x) (ffr 23 x))
  have e : decide ((fex 8 23 x : Int) = 255 ∧ (ffr 23 x : Int) ≠ 0) = decide (FNan 8 23 x) := by
    unfold FNan
    have : ((fex 8 23 x : Int) = 255 ∧ (ffr 23 x : Int) ≠ 0) ↔ (fex 8 23 x = 2 ^ 8 - 1 ∧ ffr 23 x ≠ 0) := by omega
    simp only [this]
  rw [e] at hi
  clear e
  unfold parts at hs hi
  by_cases hn : FNan 8 23 x
  · have HW := Lib.hid (widen_nan (O := 925) h hn)
    rw [show decide (FNan 8 23 x) = true by simp [hn]] at hi
    clear hn
    generalize (fsg 8 23 x : Int) = s at hs hi
    generalize (fex 8 23 x : Int) = e at hs hi
    generalize (ffr 23 x : Int) = f at hs hi
    generalize (x : Int) = z at hs q0 q1 ⊢
    go_enter Tryz.func153, Tryz.ntmps153
    go_wp2_with (go_at_call 85; refine (hs.out _).mono ?_; rintro r w' ⟨rfl, S1⟩)
    have b0 : Blk (w'.alloc (.cells (parts s e f) 116)) w'.heap.size 116 (parts s e f) := Blk.fresh _ _ _
    have S : Below w.heap.size w (w'.alloc (.cells (parts s e f) 116)) := S1.alloc S1.size _
    unfold parts at b0 S
    generalize w'.alloc (.cells #[.int .u64 s, .int .i64 e, .int .u64 f] 116) = w2 at *
    generalize w'.heap.size = g at *
    refine (hi.out _).mono ?_
    rintro r w3 ⟨rfl, S2⟩
    have HS := Lib.hid (S.trans (S2.mono S.size))
    have B0 := Lib.hid (b0.on S2)
    clear S S1 S2 b0
    go_wp2_with fail
    go_ret2
    exact ⟨9221120237041090560, rfl, HW.out, HS.out⟩
  · have hd := Lib.hid (float_widened_single x h hn)
    have hsm := Lib.hid (f_small .single x).1
    rw [show decide (FNan 8 23 x) = false by simp [hn]] at hi
    unfold parts at hd
    clear hn
    generalize hsz : (fsg 8 23 x : Int) = s at hs hi hd
    generalize (fex 8 23 x : Int) = e at hs hi hd
    generalize (ffr 23 x : Int) = f at hs hi hd
    generalize (x : Int) = z at hs q0 q1 ⊢
    have HSZ := Lib.hid hsz
    clear hsz
    go_enter Tryz.func153, Tryz.ntmps153
    go_wp2_with (go_at_call 85; refine (hs.out _).mono ?_; rintro r w' ⟨rfl, S1⟩)
    have b0 : Blk (w'.alloc (.cells (parts s e f) 116)) w'.heap.size 116 (parts s e f) := Blk.fresh _ _ _
    have S : Below w.heap.size w (w'.alloc (.cells (parts s e f) 116)) := S1.alloc S1.size _
    unfold parts at b0 S
    generalize w'.alloc (.cells #[.int .u64 s, .int .i64 e, .int .u64 f] 116) = w2 at *
    generalize w'.heap.size = g at *
    refine (hi.out _).mono ?_
    rintro r w3 ⟨rfl, S2⟩
    have HS := Lib.hid (S.trans (S2.mono S.size))
    have B0 := Lib.hid (b0.on S2)
    clear S S1 S2 b0
    obtain ⟨c0, c1, c2, _⟩ := pblk B0.out
    go_wp2_with fail
    refine (hd.out _).mono ?_
    rintro r w4 ⟨e', f', rfl, he, hf, hW, S4⟩
    have HW := Lib.hid hW
    have HS := Lib.hid (HS.out.trans (S4.mono HS.out.size))
    have hj := float_join .double (fsg 8 23 x) e' f' hsm.out he hf
    unfold parts at hj
    rw [HSZ.out] at hj
    have HJ := Lib.hid hj
    clear hj hW S4 he hf
    generalize hz2 : (((fsg 8 23 x * 2 ^ (11 + 52) + e' * 2 ^ 52 + f' : Nat)) : Int) = z2 at HJ
    have HZ2 := Lib.hid hz2
    generalize (e' : Int) = ee at *
    generalize (f' : Int) = ff at *
    clear hz2 c0 c1 c2
    go_wp2_with (go_at_call 165; refine (HJ.out _).mono ?_; rintro r w5 ⟨rfl, S5⟩)
    go_ret2
    exact ⟨_, by rw [HZ2.out]; rfl, HW.out, HS.out.trans (S5.mono HS.out.size)⟩
end Go.Proofs.YtjelgoeamaejmaaGreat

/- Package utf: a walk's steps. -/
namespace Go.Proofs.YtjelgoeamaejmaaGreat
open Go.RowKit

theorem utf_bounds (c : Int) (w : World) :
    Calls Tryz.prog 128 #[.int .u8 c] w fun e w' => e = .returned (.tuple #[.int .u8 (ulo c), .int .u8 (uhi c)]) ∧ w = w' := by
  by_cases h1 : c = 224
  · subst h1
    go_enter Tryz.func128, Tryz.ntmps128
    go_wp2
    go_ret2
    exact ⟨rfl, rfl⟩
  by_cases h2 : c = 237
  · subst h2
    go_enter Tryz.func128, Tryz.ntmps128
    go_wp2
    go_ret2
    exact ⟨rfl, rfl⟩
  by_cases h3 : c = 240
  · subst h3
    go_enter Tryz.func128, Tryz.ntmps128
    go_wp2
    go_ret2
    exact ⟨rfl, rfl⟩
  by_cases h4 : c = 244
  · subst h4
    go_enter Tryz.func128, Tryz.ntmps128
    go_wp2
    go_ret2
    exact ⟨rfl, rfl⟩
  have e1 : ulo c = 128 := by unfold ulo; rw [if_neg h1, if_neg h3]
  have e2 : uhi c = 191 := by unfold uhi; rw [if_neg h2, if_neg h4]
  rw [e1, e2]
  clear e1 e2
  go_enter Tryz.func128, Tryz.ntmps128
  go_wp2
  go_ret2
  exact ⟨rfl, rfl⟩

theorem ublk {w : World} {g : Nat} {t : TypeId} {q : UQ} (h : Blk w g t (ucells q)) :
    w.cell? ⟨g, 0, none⟩ = some (.int .i64 q.left) ∧ w.cell? ⟨g, 1, none⟩ = some (.int .u8 q.lo) ∧ w.cell? ⟨g, 2, none⟩ = some (.int .u8 q.hi) ∧ w.cell? ⟨g, 3, none⟩ = some (.bool q.wr) ∧ (∀ i, w.frozen? ⟨g, i, none⟩ = false) :=
  ⟨h.cell 0, h.cell 1, h.cell 2, h.cell 3, h.free⟩
theorem umore_some {c : Int} {n : Nat} (h : umore c = some n) : (n = 3 ∧ 240 ≤ c ∧ c ≤ 244) ∨ (n = 2 ∧ 224 ≤ c ∧ c ≤ 239) ∨ (n = 1 ∧ 194 ≤ c ∧ c ≤ 223) ∨ (n = 0 ∧ c ≤ 127) := by
  unfold umore at h
  split at h
  · injection h; omega
  split at h
  · injection h; omega
  split at h
  · injection h; omega
  split at h
  · injection h; omega
  · cases h
theorem umore_none {c : Int} (h : umore c = none) : 127 < c ∧ ¬ (194 ≤ c ∧ c ≤ 223) ∧ ¬ (224 ≤ c ∧ c ≤ 239) ∧ ¬ (240 ≤ c ∧ c ≤ 244) := by
  unfold umore at h
  split at h
  · cases h
  split at h
  · cases h
  split at h
  · cases h
  split at h
  · cases h
  · omega
theorem ucells_put (l : Nat) (lo hi : Int) (wr : Bool) (a b : Int) (n : Nat) : (((ucells ⟨l, lo, hi, wr⟩).setIfInBounds 0 (.int .i64 n)).setIfInBounds 1 (.int .u8 a)).setIfInBounds 2 (.int .u8 b) = ucells ⟨n, a, b, wr⟩ := rfl
theorem utf_begin_some (c : Int) (n : Nat) (l : Int) (h : Int) (hn : umore c = some n) (w : World) (g : Nat) (hg : Blk w g 98 (ucells ⟨0, l, h, false⟩)) :
    Calls Tryz.prog 104 #[.pointer (some ⟨g, 0, none⟩), .int .u8 c] w fun e w' => e = .returned (.bool true) ∧ Blk w' g 98 (ucells ⟨n, ulo c, uhi c, false⟩) ∧ Only g w w' := by
  obtain ⟨c0, c1, c2, c3, fz⟩ := ublk hg
  have f0 := fz 0
  have f1 := fz 1
  have f2 := fz 2
  have z : ((0 : Nat) : Int) = 0 := rfl
  simp only [z] at c0
  clear fz c3 z
  rcases umore_some hn with ⟨rfl, r1, r2⟩ | ⟨rfl, r1, r2⟩ | ⟨rfl, r1, r2⟩ | ⟨rfl, r1⟩
  · go_enter Tryz.func104, Tryz.ntmps104
    go_wp2_with (go_at_call 128; refine (utf_bounds _ _).mono ?_; rintro e w' ⟨rfl, rfl⟩)
    go_ret
    exact ⟨rfl, ((((hg.put 0 (.int .i64 1)).put 0 (.int .i64 2)).put 0 (.int .i64 3)).put 1 (.int .u8 (ulo c))).put 2 (.int .u8 (uhi c)), (((((Only.refl g w).put 0 _).put 0 _).put 0 _).put 1 _).put 2 _⟩
  · go_enter Tryz.func104, Tryz.ntmps104
    go_wp2_with (go_at_call 128; refine (utf_bounds _ _).mono ?_; rintro e w' ⟨rfl, rfl⟩)
    go_ret
    exact ⟨rfl, (((hg.put 0 (.int .i64 1)).put 0 (.int .i64 2)).put 1 (.int .u8 (ulo c))).put 2 (.int .u8 (uhi c)), ((((Only.refl g w).put 0 _).put 0 _).put 1 _).put 2 _⟩
  · go_enter Tryz.func104, Tryz.ntmps104
    go_wp2_with (go_at_call 128; refine (utf_bounds _ _).mono ?_; rintro e w' ⟨rfl, rfl⟩)
    go_ret
    exact ⟨rfl, ((hg.put 0 (.int .i64 1)).put 1 (.int .u8 (ulo c))).put 2 (.int .u8 (uhi c)), (((Only.refl g w).put 0 _).put 1 _).put 2 _⟩
  · go_enter Tryz.func104, Tryz.ntmps104
    go_wp2_with (go_at_call 128; refine (utf_bounds _ _).mono ?_; rintro e w' ⟨rfl, rfl⟩)
    go_ret
    exact ⟨rfl, (hg.put 1 (.int .u8 (ulo c))).put 2 (.int .u8 (uhi c)), ((Only.refl g w).put 1 _).put 2 _⟩
theorem utf_begin_none (c : Int) (hn : umore c = none) (w : World) (g : Nat) :
    Calls Tryz.prog 104 #[.pointer (some ⟨g, 0, none⟩), .int .u8 c] w fun e w' => e = .returned (.bool false) ∧ w = w' := by
  obtain ⟨r1, r2, r3, r4⟩ := umore_none hn
  go_enter Tryz.func104, Tryz.ntmps104
  go_wp2
  all_goals go_ret
  all_goals exact ⟨rfl, rfl⟩
theorem utf_follow_no (c l h : Int) (n : Nat) (hn : c < l ∨ h < c) (w : World) (g : Nat) (hg : Blk w g 98 (ucells ⟨n, l, h, false⟩)) :
    Calls Tryz.prog 105 #[.pointer (some ⟨g, 0, none⟩), .int .u8 c] w fun e w' => e = .returned (.bool false) ∧ w = w' := by
  obtain ⟨c0, c1, c2, c3, fz⟩ := ublk hg
  dsimp only at c0 c1 c2 c3
  clear fz
  by_cases hcl : c < l
  · go_enter Tryz.func105, Tryz.ntmps105
    go_wp2
    go_ret
    exact ⟨rfl, rfl⟩
  · have hch : h < c := by omega
    go_enter Tryz.func105, Tryz.ntmps105
    go_wp2
    go_ret
    exact ⟨rfl, rfl⟩
theorem utf_follow_yes (c l h : Int) (n : Nat) (h0 : ¬ c < l) (h1 : ¬ h < c) (hm : n < 100) (w : World) (g : Nat) (hg : Blk w g 98 (ucells ⟨n + 1, l, h, false⟩)) :
    Calls Tryz.prog 105 #[.pointer (some ⟨g, 0, none⟩), .int .u8 c] w fun e w' => e = .returned (.bool true) ∧ Blk w' g 98 (ucells ⟨n, 128, 191, false⟩) ∧ Only g w w' := by
  obtain ⟨c0, c1, c2, c3, fz⟩ := ublk hg
  dsimp only at c0 c1 c2 c3
  have f0 := fz 0
  have f1 := fz 1
  have f2 := fz 2
  have z : ((n + 1 : Nat) : Int) = (n : Int) + 1 := by simp
  rw [z] at c0
  clear fz z c3
  go_enter Tryz.func105, Tryz.ntmps105
  go_wp2
  go_ret
  exact ⟨rfl, ((hg.put 0 (.int .i64 n)).put 1 (.int .u8 128)).put 2 (.int .u8 191), (((Only.refl g w).put 0 _).put 1 _).put 2 _⟩
theorem utf_done (q : UQ) (w : World) (g : Nat) (hg : Blk w g 98 (ucells q)) :
    Calls Tryz.prog 71 #[.pointer (some ⟨g, 0, none⟩)] w fun e w' => e = .returned (.bool (udone q)) ∧ w = w' := by
  obtain ⟨n, l, h, wr⟩ := q
  obtain ⟨c0, c1, c2, c3, fz⟩ := ublk hg
  dsimp only at c0 c1 c2 c3
  clear fz c1 c2
  cases wr with
  | true =>
    go_enter Tryz.func71, Tryz.ntmps71
    go_wp2
    go_ret
    exact ⟨rfl, rfl⟩
  | false =>
    have e : udone ⟨n, l, h, false⟩ = ((n : Int) == 0) := by
      unfold udone
      cases n with
      | zero => rfl
      | succ n => simp; omega
    rw [e]
    go_enter Tryz.func71, Tryz.ntmps71
    go_wp2
    go_ret
    exact ⟨rfl, rfl⟩
theorem utf_done_nil (w : World) : Calls Tryz.prog 71 #[.pointer none] w fun e w' => e = .returned (.bool false) ∧ w = w' := by
  go_enter Tryz.func71, Tryz.ntmps71
  go_wp2
  go_ret
  exact ⟨rfl, rfl⟩
theorem utf_step_nil (c : Int) (w : World) : Calls Tryz.prog 86 #[.pointer none, .int .u8 c] w fun e w' => e = .returned (.bool false) ∧ w = w' := by
  go_enter Tryz.func86, Tryz.ntmps86
  go_wp2
  go_ret
  exact ⟨rfl, rfl⟩
theorem utf_step (q : UQ) (c : Int) (hn : q.left < 100) (w : World) (g : Nat) (hg : Blk w g 98 (ucells q)) :
    Calls Tryz.prog 86 #[.pointer (some ⟨g, 0, none⟩), .int .u8 c] w fun e w' => e = .returned (.bool (!(ustep q c).wr)) ∧ Blk w' g 98 (ucells (ustep q c)) ∧ Only g w w' := by
  obtain ⟨n, l, h, wr⟩ := q
  obtain ⟨c0, c1, c2, c3, fz⟩ := ublk hg
  dsimp only at c0 c1 c2 c3 hn
  have f3 := fz 3
  clear fz
  cases wr with
  | true =>
    have e : ustep ⟨n, l, h, true⟩ c = ⟨n, l, h, true⟩ := rfl
    rw [e]
    clear e
    go_enter Tryz.func86, Tryz.ntmps86
    go_wp2
    go_ret
    exact ⟨rfl, hg, Only.refl _ _⟩
  | false =>
    cases n with
    | zero =>
      cases hm : umore c with
      | none =>
        have e : ustep ⟨0, l, h, false⟩ c = ⟨0, l, h, true⟩ := by unfold ustep; rw [if_neg (by simp), if_pos rfl, hm]
        rw [e]
        clear e
        have z : ((0 : Nat) : Int) = 0 := rfl
        rw [z] at c0
        clear z c1 c2
        have HB := Lib.hid (utf_begin_none c hm)
        have HG := Lib.hid hg
        clear hg
        go_enter Tryz.func86, Tryz.ntmps86
        go_wp2_with (go_at_call 104; refine (HB.out _ _).mono ?_; rintro e w' ⟨rfl, rfl⟩)
        go_ret
        exact ⟨rfl, HG.out.put 3 (.bool true), (Only.refl _ _).put 3 _⟩
      | some n =>
        have e : ustep ⟨0, l, h, false⟩ c = ⟨n, ulo c, uhi c, false⟩ := by unfold ustep; rw [if_neg (by simp), if_pos rfl, hm]
        rw [e]
        clear e
        have z : ((0 : Nat) : Int) = 0 := rfl
        rw [z] at c0
        clear z c1 c2
        have HB := Lib.hid (utf_begin_some c n l h hm w g hg)
        clear hg
        go_enter Tryz.func86, Tryz.ntmps86
        go_wp2_with fail
        refine HB.out.mono ?_
        rintro e w1 ⟨rfl, b1, o1⟩
        have d3 : w1.cell? ⟨g, 3, none⟩ = some (.bool false) := b1.cell 3
        have e3 := b1.free 3
        have B1 := Lib.hid b1
        have O1 := Lib.hid o1
        clear b1 o1 HB c0 c3 f3
        go_wp2
        go_ret
        exact ⟨rfl, B1.out.put 3 (.bool false), O1.out.put 3 _⟩
    | succ n =>
      by_cases hm : c < l ∨ h < c
      · have e : ustep ⟨n + 1, l, h, false⟩ c = ⟨n + 1, l, h, true⟩ := by unfold ustep; rw [if_neg (by simp), if_neg (by simp), if_pos hm]
        rw [e]
        clear e c1 c2
        have z : (((n + 1 : Nat) : Int) == 0) = false := by rw [beq_eq_false_iff_ne]; omega
        generalize ((n + 1 : Nat) : Int) = N at *
        have HB := Lib.hid (utf_follow_no c l h (n + 1) hm w g hg)
        have HG := Lib.hid hg
        clear hg
        go_enter Tryz.func86, Tryz.ntmps86
        go_wp2_with (go_at_call 105; refine HB.out.mono ?_; rintro e w' ⟨rfl, rfl⟩)
        go_ret
        exact ⟨rfl, HG.out.put 3 (.bool true), (Only.refl _ _).put 3 _⟩
      · have e : ustep ⟨n + 1, l, h, false⟩ c = ⟨n, 128, 191, false⟩ := by unfold ustep; rw [if_neg (by simp), if_neg (by simp), if_neg hm]; rfl
        rw [e]
        clear e c1 c2
        have z : (((n + 1 : Nat) : Int) == 0) = false := by rw [beq_eq_false_iff_ne]; omega
        have HB := Lib.hid (utf_follow_yes c l h n (by omega) (by omega) (by omega) w g hg)
        generalize ((n + 1 : Nat) : Int) = N at *
        clear hg hm
        go_enter Tryz.func86, Tryz.ntmps86
        go_wp2_with fail
        refine HB.out.mono ?_
        rintro e w1 ⟨rfl, b1, o1⟩
        have d3 : w1.cell? ⟨g, 3, none⟩ = some (.bool false) := b1.cell 3
        have e3 := b1.free 3
        have B1 := Lib.hid b1
        have O1 := Lib.hid o1
        clear b1 o1 HB c0 c3 f3
        go_wp2
        go_ret
        exact ⟨rfl, B1.out.put 3 (.bool false), O1.out.put 3 _⟩
end Go.Proofs.YtjelgoeamaejmaaGreat
