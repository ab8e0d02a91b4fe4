/- Package utf: a walk's steps. -/
import Derived.Test.YtmihoeholcaokaaRows
import Derived.Test.YtmihoeholcaokaaKAO
import Derived.Test.YtmihoeholcaokaaKAA
import Derived.RegionTactic
namespace Go.Proofs.Ytmihoeholcaokaa
open Go.RowKit

theorem utf_bounds (c : Int) (w : World) :
    Calls Try.prog 56 #[.int .u8 c] w fun e w' => e = .returned (.tuple #[.int .u8 (ulo c), .int .u8 (uhi c)]) ∧ w = w' := by
  by_cases h1 : c = 224
  · subst h1
    go_enter Try.func56, Try.ntmps56
    go_wp2
    go_ret2
    exact ⟨rfl, rfl⟩
  by_cases h2 : c = 237
  · subst h2
    go_enter Try.func56, Try.ntmps56
    go_wp2
    go_ret2
    exact ⟨rfl, rfl⟩
  by_cases h3 : c = 240
  · subst h3
    go_enter Try.func56, Try.ntmps56
    go_wp2
    go_ret2
    exact ⟨rfl, rfl⟩
  by_cases h4 : c = 244
  · subst h4
    go_enter Try.func56, Try.ntmps56
    go_wp2
    go_ret2
    exact ⟨rfl, rfl⟩
  have e1 : ulo c = 128 := by unfold ulo; rw [if_neg h1, if_neg h3]
  have e2 : uhi c = 191 := by unfold uhi; rw [if_neg h2, if_neg h4]
  rw [e1, e2]
  clear e1 e2
  go_enter Try.func56, Try.ntmps56
  go_wp2
  go_ret2
  exact ⟨rfl, rfl⟩

theorem ublk {w : World} {g : Nat} {t : TypeId} {q : UQ} (h : Blk w g t (ucells q)) :
    w.cell? ⟨g, 0, none⟩ = some (.int .i64 q.left) ∧ w.cell? ⟨g, 1, none⟩ = some (.int .u8 q.lo) ∧ w.cell? ⟨g, 2, none⟩ = some (.int .u8 q.hi) ∧ w.cell? ⟨g, 3, none⟩ = some (.bool q.wr) ∧ (∀ i, w.frozen? ⟨g, i, none⟩ = false) :=
  ⟨h.cell 0, h.cell 1, h.cell 2, h.cell 3, h.free⟩
theorem umore_some {c : Int} {n : Nat} (h : umore c = some n) : (n = 3 ∧ 240 ≤ c ∧ c ≤ 244) ∨ (n = 2 ∧ 224 ≤ c ∧ c ≤ 239) ∨ (n = 1 ∧ 194 ≤ c ∧ c ≤ 223) ∨ (n = 0 ∧ c ≤ 127) := by
  unfold umore at h
  split at h
  · injection h; omega
  split at h
  · injection h; omega
  split at h
  · injection h; omega
  split at h
  · injection h; omega
  · cases h
theorem umore_none {c : Int} (h : umore c = none) : 127 < c ∧ ¬ (194 ≤ c ∧ c ≤ 223) ∧ ¬ (224 ≤ c ∧ c ≤ 239) ∧ ¬ (240 ≤ c ∧ c ≤ 244) := by
  unfold umore at h
  split at h
  · cases h
  split at h
  · cases h
  split at h
  · cases h
  split at h
  · cases h
  · omega
theorem ucells_put (l : Nat) (lo hi : Int) (wr : Bool) (a b : Int) (n : Nat) : (((ucells ⟨l, lo, hi, wr⟩).setIfInBounds 0 (.int .i64 n)).setIfInBounds 1 (.int .u8 a)).setIfInBounds 2 (.int .u8 b) = ucells ⟨n, a, b, wr⟩ := rfl
theorem utf_begin_some (c : Int) (n : Nat) (l : Int) (h : Int) (hn : umore c = some n) (w : World) (g : Nat) (hg : Blk w g 79 (ucells ⟨0, l, h, false⟩)) :
    Calls Try.prog 48 #[.pointer (some ⟨g, 0, none⟩), .int .u8 c] w fun e w' => e = .returned (.bool true) ∧ Blk w' g 79 (ucells ⟨n, ulo c, uhi c, false⟩) ∧ Only g w w' := by
  obtain ⟨c0, c1, c2, c3, fz⟩ := ublk hg
  have f0 := fz 0
  have f1 := fz 1
  have f2 := fz 2
  have z : ((0 : Nat) : Int) = 0 := rfl
  simp only [z] at c0
  clear fz c3 z
  rcases umore_some hn with ⟨rfl, r1, r2⟩ | ⟨rfl, r1, r2⟩ | ⟨rfl, r1, r2⟩ | ⟨rfl, r1⟩
  · go_enter Try.func48, Try.ntmps48
    go_wp2_with (go_at_call 56; refine (utf_bounds _ _).mono ?_; rintro e w' ⟨rfl, rfl⟩)
    go_ret
    exact ⟨rfl, ((((hg.put 0 (.int .i64 1)).put 0 (.int .i64 2)).put 0 (.int .i64 3)).put 1 (.int .u8 (ulo c))).put 2 (.int .u8 (uhi c)), (((((Only.refl g w).put 0 _).put 0 _).put 0 _).put 1 _).put 2 _⟩
  · go_enter Try.func48, Try.ntmps48
    go_wp2_with (go_at_call 56; refine (utf_bounds _ _).mono ?_; rintro e w' ⟨rfl, rfl⟩)
    go_ret
    exact ⟨rfl, (((hg.put 0 (.int .i64 1)).put 0 (.int .i64 2)).put 1 (.int .u8 (ulo c))).put 2 (.int .u8 (uhi c)), ((((Only.refl g w).put 0 _).put 0 _).put 1 _).put 2 _⟩
  · go_enter Try.func48, Try.ntmps48
    go_wp2_with (go_at_call 56; refine (utf_bounds _ _).mono ?_; rintro e w' ⟨rfl, rfl⟩)
    go_ret
    exact ⟨rfl, ((hg.put 0 (.int .i64 1)).put 1 (.int .u8 (ulo c))).put 2 (.int .u8 (uhi c)), (((Only.refl g w).put 0 _).put 1 _).put 2 _⟩
  · go_enter Try.func48, Try.ntmps48
    go_wp2_with (go_at_call 56; refine (utf_bounds _ _).mono ?_; rintro e w' ⟨rfl, rfl⟩)
    go_ret
    exact ⟨rfl, (hg.put 1 (.int .u8 (ulo c))).put 2 (.int .u8 (uhi c)), ((Only.refl g w).put 1 _).put 2 _⟩
theorem utf_begin_none (c : Int) (hn : umore c = none) (w : World) (g : Nat) :
    Calls Try.prog 48 #[.pointer (some ⟨g, 0, none⟩), .int .u8 c] w fun e w' => e = .returned (.bool false) ∧ w = w' := by
  obtain ⟨r1, r2, r3, r4⟩ := umore_none hn
  go_enter Try.func48, Try.ntmps48
  go_wp2
  all_goals go_ret
  all_goals exact ⟨rfl, rfl⟩
theorem utf_follow_no (c l h : Int) (n : Nat) (hn : c < l ∨ h < c) (w : World) (g : Nat) (hg : Blk w g 79 (ucells ⟨n, l, h, false⟩)) :
    Calls Try.prog 49 #[.pointer (some ⟨g, 0, none⟩), .int .u8 c] w fun e w' => e = .returned (.bool false) ∧ w = w' := by
  obtain ⟨c0, c1, c2, c3, fz⟩ := ublk hg
  dsimp only at c0 c1 c2 c3
  clear fz
  by_cases hcl : c < l
  · go_enter Try.func49, Try.ntmps49
    go_wp2
    go_ret
    exact ⟨rfl, rfl⟩
  · have hch : h < c := by omega
    go_enter Try.func49, Try.ntmps49
    go_wp2
    go_ret
    exact ⟨rfl, rfl⟩
theorem utf_follow_yes (c l h : Int) (n : Nat) (h0 : ¬ c < l) (h1 : ¬ h < c) (hm : n < 100) (w : World) (g : Nat) (hg : Blk w g 79 (ucells ⟨n + 1, l, h, false⟩)) :
    Calls Try.prog 49 #[.pointer (some ⟨g, 0, none⟩), .int .u8 c] w fun e w' => e = .returned (.bool true) ∧ Blk w' g 79 (ucells ⟨n, 128, 191, false⟩) ∧ Only g w w' := by
  obtain ⟨c0, c1, c2, c3, fz⟩ := ublk hg
  dsimp only at c0 c1 c2 c3
  have f0 := fz 0
  have f1 := fz 1
  have f2 := fz 2
  have z : ((n + 1 : Nat) : Int) = (n : Int) + 1 := by simp
  rw [z] at c0
  clear fz z c3
  go_enter Try.func49, Try.ntmps49
  go_wp2
  go_ret
  exact ⟨rfl, ((hg.put 0 (.int .i64 n)).put 1 (.int .u8 128)).put 2 (.int .u8 191), (((Only.refl g w).put 0 _).put 1 _).put 2 _⟩
theorem utf_done (q : UQ) (w : World) (g : Nat) (hg : Blk w g 79 (ucells q)) :
    Calls Try.prog 38 #[.pointer (some ⟨g, 0, none⟩)] w fun e w' => e = .returned (.bool (udone q)) ∧ w = w' := by
  obtain ⟨n, l, h, wr⟩ := q
  obtain ⟨c0, c1, c2, c3, fz⟩ := ublk hg
  dsimp only at c0 c1 c2 c3
  clear fz c1 c2
  cases wr with
  | true =>
    go_enter Try.func38, Try.ntmps38
    go_wp2
    go_ret
    exact ⟨rfl, rfl⟩
  | false =>
    have e : udone ⟨n, l, h, false⟩ = ((n : Int) == 0) := by
      unfold udone
      cases n with
      | zero => rfl
      | succ n => simp; omega
    rw [e]
    go_enter Try.func38, Try.ntmps38
    go_wp2
    go_ret
    exact ⟨rfl, rfl⟩
theorem utf_done_nil (w : World) : Calls Try.prog 38 #[.pointer none] w fun e w' => e = .returned (.bool false) ∧ w = w' := by
  go_enter Try.func38, Try.ntmps38
  go_wp2
  go_ret
  exact ⟨rfl, rfl⟩
theorem utf_step_nil (c : Int) (w : World) : Calls Try.prog 42 #[.pointer none, .int .u8 c] w fun e w' => e = .returned (.bool false) ∧ w = w' := by
  go_enter Try.func42, Try.ntmps42
  go_wp2
  go_ret
  exact ⟨rfl, rfl⟩
theorem utf_step (q : UQ) (c : Int) (hn : q.left < 100) (w : World) (g : Nat) (hg : Blk w g 79 (ucells q)) :
    Calls Try.prog 42 #[.pointer (some ⟨g, 0, none⟩), .int .u8 c] w fun e w' => e = .returned (.bool (!(ustep q c).wr)) ∧ Blk w' g 79 (ucells (ustep q c)) ∧ Only g w w' := by
  obtain ⟨n, l, h, wr⟩ := q
  obtain ⟨c0, c1, c2, c3, fz⟩ := ublk hg
  dsimp only at c0 c1 c2 c3 hn
  have f3 := fz 3
  clear fz
  cases wr with
  | true =>
    have e : ustep ⟨n, l, h, true⟩ c = ⟨n, l, h, true⟩ := rfl
    rw [e]
    clear e
    go_enter Try.func42, Try.ntmps42
    go_wp2
    go_ret
    exact ⟨rfl, hg, Only.refl _ _⟩
  | false =>
    cases n with
    | zero =>
      cases hm : umore c with
      | none =>
        have e : ustep ⟨0, l, h, false⟩ c = ⟨0, l, h, true⟩ := by unfold ustep; rw [if_neg (by simp), if_pos rfl, hm]
        rw [e]
        clear e
        have z : ((0 : Nat) : Int) = 0 := rfl
        rw [z] at c0
        clear z c1 c2
        have HB := Lib.hid (utf_begin_none c hm)
        have HG := Lib.hid hg
        clear hg
        go_enter Try.func42, Try.ntmps42
        go_wp2_with (go_at_call 48; refine (HB.out _ _).mono ?_; rintro e w' ⟨rfl, rfl⟩)
        go_ret
        exact ⟨rfl, HG.out.put 3 (.bool true), (Only.refl _ _).put 3 _⟩
      | some n =>
        have e : ustep ⟨0, l, h, false⟩ c = ⟨n, ulo c, uhi c, false⟩ := by unfold ustep; rw [if_neg (by simp), if_pos rfl, hm]
        rw [e]
        clear e
        have z : ((0 : Nat) : Int) = 0 := rfl
        rw [z] at c0
        clear z c1 c2
        have HB := Lib.hid (utf_begin_some c n l h hm w g hg)
        clear hg
        go_enter Try.func42, Try.ntmps42
        go_wp2_with fail
        refine HB.out.mono ?_
        rintro e w1 ⟨rfl, b1, o1⟩
        have d3 : w1.cell? ⟨g, 3, none⟩ = some (.bool false) := b1.cell 3
        have e3 := b1.free 3
        have B1 := Lib.hid b1
        have O1 := Lib.hid o1
        clear b1 o1 HB c0 c3 f3
        go_wp2
        go_ret
        exact ⟨rfl, B1.out.put 3 (.bool false), O1.out.put 3 _⟩
    | succ n =>
      by_cases hm : c < l ∨ h < c
      · have e : ustep ⟨n + 1, l, h, false⟩ c = ⟨n + 1, l, h, true⟩ := by unfold ustep; rw [if_neg (by simp), if_neg (by simp), if_pos hm]
        rw [e]
        clear e c1 c2
        have z : (((n + 1 : Nat) : Int) == 0) = false := by rw [beq_eq_false_iff_ne]; omega
        generalize ((n + 1 : Nat) : Int) = N at *
        have HB := Lib.hid (utf_follow_no c l h (n + 1) hm w g hg)
        have HG := Lib.hid hg
        clear hg
        go_enter Try.func42, Try.ntmps42
        go_wp2_with (go_at_call 49; refine HB.out.mono ?_; rintro e w' ⟨rfl, rfl⟩)
        go_ret
        exact ⟨rfl, HG.out.put 3 (.bool true), (Only.refl _ _).put 3 _⟩
      · have e : ustep ⟨n + 1, l, h, false⟩ c = ⟨n, 128, 191, false⟩ := by unfold ustep; rw [if_neg (by simp), if_neg (by simp), if_neg hm]; rfl
        rw [e]
        clear e c1 c2
        have z : (((n + 1 : Nat) : Int) == 0) = false := by rw [beq_eq_false_iff_ne]; omega
        have HB := Lib.hid (utf_follow_yes c l h n (by omega) (by omega) (by omega) w g hg)
        generalize ((n + 1 : Nat) : Int) = N at *
        clear hg hm
        go_enter Try.func42, Try.ntmps42
        go_wp2_with fail
        refine HB.out.mono ?_
        rintro e w1 ⟨rfl, b1, o1⟩
        have d3 : w1.cell? ⟨g, 3, none⟩ = some (.bool false) := b1.cell 3
        have e3 := b1.free 3
        have B1 := Lib.hid b1
        have O1 := Lib.hid o1
        clear b1 o1 HB c0 c3 f3
        go_wp2
        go_ret
        exact ⟨rfl, B1.out.put 3 (.bool false), O1.out.put 3 _⟩
end Go.Proofs.Ytmihoeholcaokaa
