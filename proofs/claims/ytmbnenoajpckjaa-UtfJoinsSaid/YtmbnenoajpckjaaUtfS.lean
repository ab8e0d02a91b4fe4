
/- The document's answer for texts: a sign. -/
import Derived.Test.YtmbnenoajpckjaaUtfR
import Derived.Test.YtmbnenoajpckjaaUtfA
namespace Go.Proofs.Ytmbnenoajpckjaa
open Go.RowKit

/-- A sign's first byte c: it has n bytes, the next one's bounds are lo, hi. -/
def Lead (c : Int) (n : Nat) (lo hi : Int) : Prop :=
  (n = 2 ∧ 194 ≤ c ∧ c ≤ 223 ∧ lo = 128 ∧ hi = 191) ∨ (n = 3 ∧ c = 224 ∧ lo = 160 ∧ hi = 191) ∨ (n = 3 ∧ c = 237 ∧ lo = 128 ∧ hi = 159) ∨ (n = 3 ∧ 225 ≤ c ∧ c ≤ 239 ∧ (c == 237) = false ∧ lo = 128 ∧ hi = 191) ∨
  (n = 4 ∧ c = 240 ∧ lo = 144 ∧ hi = 191) ∨ (n = 4 ∧ c = 244 ∧ lo = 128 ∧ hi = 143) ∨ (n = 4 ∧ 241 ≤ c ∧ c ≤ 243 ∧ lo = 128 ∧ hi = 191)
theorem lead_of {c : Int} {m : Nat} (h : umore c = some (m + 1)) : Lead c (m + 2) (ulo c) (uhi c) := by
  unfold Lead ulo uhi
  rcases umore_some h with ⟨h, r1, r2⟩ | ⟨h, r1, r2⟩ | ⟨h, r1, r2⟩ | ⟨h, r1⟩
  · have hm : m + 2 = 4 := by omega
    by_cases e1 : c = 240
    · subst e1; simp [hm]
    by_cases e2 : c = 244
    · subst e2; simp [hm]
    right; right; right; right; right; right
    rw [if_neg (by omega), if_neg e1, if_neg (by omega), if_neg e2]
    omega
  · have hm : m + 2 = 3 := by omega
    by_cases e1 : c = 224
    · subst e1; simp [hm]
    by_cases e2 : c = 237
    · subst e2; simp [hm]
    right; right; right; left
    rw [if_neg e1, if_neg (by omega), if_neg e2, if_neg (by omega), beq_eq_false_iff_ne]
    omega
  · have hm : m + 2 = 2 := by omega
    left
    rw [if_neg (by omega), if_neg (by omega), if_neg (by omega), if_neg (by omega)]
    omega
  · omega
set_option maxHeartbeats 1000000 in
theorem ref_sign_short (s : ByteArray) (hs : s.size ≤ 1000000000) (i n : Nat) (lo hi : Int) (hl : Lead (sb s i) n lo hi) (h0 : i < s.size) (h1 : s.size = i + 1) (w : World) :
    Calls Try.prog 12 #[.string s, .int .i64 i] w fun e w' => e = .returned (.tuple #[.int .i64 n, .int .i64 1]) ∧ w = w' := by
  have HI := fun (w : World) (k : Nat) (hk : k < s.size) (x : Int) (hx : x = k) => run_sb (P := Try.prog) Try.underlying9 w s k hk x hx
  have i0 := HI w i h0 i rfl
  have g1 : (s.size : Int) ≤ (i : Int) + 1 := by omega
  clear HI
  generalize sb s i = c at *
  rcases hl with ⟨rfl, r1, r2, rfl, rfl⟩ | ⟨rfl, rfl, rfl, rfl⟩ | ⟨rfl, rfl, rfl, rfl⟩ | ⟨rfl, r1, r2, r3, rfl, rfl⟩ | ⟨rfl, rfl, rfl, rfl⟩ | ⟨rfl, rfl, rfl, rfl⟩ | ⟨rfl, r1, r2, rfl, rfl⟩
  all_goals (
    go_enter Try.func12, Try.ntmps12
    go_wp2_with fail
    go_ret2
    exact ⟨rfl, rfl⟩)
set_option maxHeartbeats 2000000 in
theorem ref_sign_bad (s : ByteArray) (hs : s.size ≤ 1000000000) (i n : Nat) (lo hi : Int) (hl : Lead (sb s i) n lo hi) (h1 : i + 1 < s.size) (hb : sb s (i + 1) < lo ∨ hi < sb s (i + 1)) (w : World) :
    Calls Try.prog 12 #[.string s, .int .i64 i] w fun e w' => e = .returned (.tuple #[.int .i64 n, .int .i64 1]) ∧ w = w' := by
  have HI := fun (w : World) (k : Nat) (hk : k < s.size) (x : Int) (hx : x = k) => run_sb (P := Try.prog) Try.underlying9 w s k hk x hx
  have h0 : i < s.size := by omega
  have i0 := HI w i h0 i rfl
  have i1 := HI w (i + 1) h1 ((i : Int) + 1) (by simp)
  have g1 : (i : Int) + 1 < (s.size : Int) := by omega
  clear HI
  generalize sb s i = c at *
  generalize sb s (i + 1) = d at *
  by_cases hd : d < lo
  · clear hb
    rcases hl with ⟨rfl, r1, r2, rfl, rfl⟩ | ⟨rfl, rfl, rfl, rfl⟩ | ⟨rfl, rfl, rfl, rfl⟩ | ⟨rfl, r1, r2, r3, rfl, rfl⟩ | ⟨rfl, rfl, rfl, rfl⟩ | ⟨rfl, rfl, rfl, rfl⟩ | ⟨rfl, r1, r2, rfl, rfl⟩
    all_goals (
      go_enter Try.func12, Try.ntmps12
      go_wp2_with fail
      go_ret2
      exact ⟨rfl, rfl⟩)
  · have hd2 : hi < d := by omega
    clear hb
    rcases hl with ⟨rfl, r1, r2, rfl, rfl⟩ | ⟨rfl, rfl, rfl, rfl⟩ | ⟨rfl, rfl, rfl, rfl⟩ | ⟨rfl, r1, r2, r3, rfl, rfl⟩ | ⟨rfl, rfl, rfl, rfl⟩ | ⟨rfl, rfl, rfl, rfl⟩ | ⟨rfl, r1, r2, rfl, rfl⟩
    all_goals (
      go_enter Try.func12, Try.ntmps12
      go_wp2_with fail
      go_ret2
      exact ⟨rfl, rfl⟩)
set_option maxHeartbeats 2000000 in
theorem ref_sign_good (s : ByteArray) (hs : s.size ≤ 1000000000) (i n : Nat) (lo hi : Int) (hl : Lead (sb s i) n lo hi) (h1 : i + 1 < s.size) (hb : lo ≤ sb s (i + 1)) (hb' : sb s (i + 1) ≤ hi) (w : World) :
    Calls Try.prog 12 #[.string s, .int .i64 i] w fun e w' => e = .returned (.tuple #[.int .i64 n, .int .i64 (2 + ufol s (i + 2) (n - 2) : Nat)]) ∧ w = w' := by
  have HI := fun (w : World) (k : Nat) (hk : k < s.size) (x : Int) (hx : x = k) => run_sb (P := Try.prog) Try.underlying9 w s k hk x hx
  have h0 : i < s.size := by omega
  have i0 := HI w i h0 i rfl
  have i1 := HI w (i + 1) h1 ((i : Int) + 1) (by simp)
  have g1 : (i : Int) + 1 < (s.size : Int) := by omega
  have hn : 2 ≤ n ∧ n ≤ 4 := by unfold Lead at hl; omega
  have HF := Lib.hid (ref_follow s hs (i + 2) (n - 2) (by omega) (by omega))
  rw [show ((i + 2 : Nat) : Int) = (i : Int) + 2 by simp, show ((n - 2 : Nat) : Int) = (n : Int) - 2 by omega] at HF
  have hu := ufol_le s (n - 2) (i + 2)
  generalize ufol s (i + 2) (n - 2) = u at *
  have hu' : u ≤ 2 := by omega
  rw [show ((2 + u : Nat) : Int) = 2 + (u : Int) by simp]
  clear HI hu hn
  generalize sb s i = c at *
  generalize sb s (i + 1) = d at *
  rcases hl with ⟨rfl, r1, r2, rfl, rfl⟩ | ⟨rfl, rfl, rfl, rfl⟩ | ⟨rfl, rfl, rfl, rfl⟩ | ⟨rfl, r1, r2, r3, rfl, rfl⟩ | ⟨rfl, rfl, rfl, rfl⟩ | ⟨rfl, rfl, rfl, rfl⟩ | ⟨rfl, r1, r2, rfl, rfl⟩
  all_goals (
    simp only [Int.reduceSub, Int.cast_ofNat_Int] at HF
    go_enter Try.func12, Try.ntmps12
    go_wp2_with fail
    refine (HF.out w).mono ?_
    rintro e w' ⟨rfl, rfl⟩
    go_wp2_with fail
    go_ret2
    exact ⟨rfl, rfl⟩)
theorem ref_sign_one (s : ByteArray) (i : Nat) (h0 : i < s.size) (hm : umore (sb s i) = some 0) (w : World) :
    Calls Try.prog 12 #[.string s, .int .i64 i] w fun e w' => e = .returned (.tuple #[.int .i64 1, .int .i64 1]) ∧ w = w' := by
  have i0 := run_sb (P := Try.prog) Try.underlying9 w s i h0 i rfl
  have r1 : sb s i ≤ 127 := by have := umore_some hm; omega
  clear hm
  generalize sb s i = c at *
  go_enter Try.func12, Try.ntmps12
  go_wp2_with fail
  go_ret2
  exact ⟨rfl, rfl⟩
theorem ref_sign_none (s : ByteArray) (i : Nat) (h0 : i < s.size) (hm : umore (sb s i) = none) (w : World) :
    Calls Try.prog 12 #[.string s, .int .i64 i] w fun e w' => e = .returned (.tuple #[.int .i64 0, .int .i64 0]) ∧ w = w' := by
  have i0 := run_sb (P := Try.prog) Try.underlying9 w s i h0 i rfl
  obtain ⟨r1, r2, r3, r4⟩ := umore_none hm
  clear hm
  generalize sb s i = c at *
  go_enter Try.func12, Try.ntmps12
  go_wp2_with fail
  all_goals go_ret2
  all_goals exact ⟨rfl, rfl⟩
end Go.Proofs.Ytmbnenoajpckjaa
