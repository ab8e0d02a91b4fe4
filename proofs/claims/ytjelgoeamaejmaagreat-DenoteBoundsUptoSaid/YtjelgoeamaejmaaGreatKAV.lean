/- The document's answer for texts: sign by sign. -/
import Derived.Test.YtjelgoeamaejmaaGreatRows
import Derived.Test.YtjelgoeamaejmaaGreatKAB
import Derived.RegionTactic
import Derived.Test.YtjelgoeamaejmaaGreatKAS
import Derived.Test.YtjelgoeamaejmaaGreatKAT
namespace Go.Proofs.YtjelgoeamaejmaaGreat
open Go.RowKit

/-- Is a place's byte one that follows? -/
def isF (s : ByteArray) (k : Nat) : Prop := k < s.size ∧ 128 ≤ sb s k ∧ sb s k ≤ 191
instance (s : ByteArray) (k : Nat) : Decidable (isF s k) := by unfold isF; exact inferInstance
/-- How many follow, of n, from a place on. -/
def ufol (s : ByteArray) (i : Nat) : Nat → Nat
  | 0 => 0
  | n + 1 => if isF s i then 1 + ufol s (i + 1) n else 0
theorem ufol_le (s : ByteArray) : ∀ (n i : Nat), ufol s i n ≤ n
  | 0, _ => Nat.le_refl _
  | n + 1, i => by
    unfold ufol
    split
    · have := ufol_le s n (i + 1); omega
    · omega
theorem ufol_at {s : ByteArray} : ∀ {k n i : Nat}, k ≤ n → (∀ j, j < k → isF s (i + j)) → (k = n ∨ ¬ isF s (i + k)) → ufol s i n = k
  | 0, 0, i, _, _, _ => rfl
  | 0, n + 1, i, _, _, h => by
    unfold ufol
    rw [if_neg (by
      rcases h with h | h
      · omega
      · exact h)]
  | k + 1, 0, _, h, _, _ => by omega
  | k + 1, n + 1, i, h, h1, h2 => by
    unfold ufol
    rw [if_pos (show isF s i from h1 0 (by omega)), ufol_at (k := k) (by omega) (fun j hj => by rw [show i + 1 + j = i + (j + 1) by omega]; exact h1 (j + 1) (by omega)) (by
      rcases h2 with h2 | h2
      · left; omega
      · right; rw [show i + 1 + k = i + (k + 1) by omega]; exact h2)]
    omega

set_option maxRecDepth 100000 in
theorem ref_follow (s : ByteArray) (hs : s.size ≤ 1000000000) (i n : Nat) (hi : i ≤ 1000000010) (hn : n ≤ 4) (w : World) :
    Calls Tryz.prog 81 #[.string s, .int .i64 i, .int .i64 n] w fun e w' => e = .returned (.int .i64 (ufol s i n)) ∧ w = w' := by
  have HI := fun (w : World) (k : Nat) (hk : k < s.size) (x : Int) (hx : x = k) => run_sb (P := Tryz.prog) Tryz.underlying9 w s k hk x hx
  go_enter Tryz.func81, Tryz.ntmps81
  go_wp2_with fail
  go_loop [7] (fun k => ∃ m : Nat, m ≤ n ∧ k = .int .i64 m ∧ ∀ j, j < m → isF s (i + j)) (fun k => n - (intOf k).toNat)
  case atStart => exact ⟨0, by omega, rfl, fun j hj => by omega⟩
  case round =>
    obtain ⟨m, hm, rfl, hf⟩ := hrel
    have HF := Lib.hid hf
    clear hf
    by_cases h1 : m < n
    · by_cases h2 : i + m < s.size
      · have hi' := HI w (i + m) h2 ((i : Int) + m) (by simp)
        clear HI
        by_cases h3 : 128 ≤ sb s (i + m)
        · by_cases h4 : sb s (i + m) ≤ 191
          · go_wp2_with fail
            go_round
            case rel => exact ⟨m + 1, by omega, by go_num, fun j hj => (by
              by_cases hjm : j < m
              · exact HF.out j hjm
              · rw [show j = m by omega]; exact ⟨h2, h3, h4⟩)⟩
            case measure => simp [intOf]; omega
          · have e := Lib.hid (ufol_at (s := s) (i := i) hm HF.out (Or.inr (fun hx => h4 hx.2.2)))
            go_wp2_with fail
            go_ret
            exact ⟨by rw [e.out]; rfl, rfl⟩
        · have e := Lib.hid (ufol_at (s := s) (i := i) hm HF.out (Or.inr (fun hx => h3 hx.2.1)))
          go_wp2_with fail
          go_ret
          exact ⟨by rw [e.out]; rfl, rfl⟩
      · have e := Lib.hid (ufol_at (s := s) (i := i) hm HF.out (Or.inr (fun hx => h2 hx.1)))
        have h2' : ¬ ((i : Int) + m < s.size) := by omega
        clear HI
        go_wp2_with fail
        go_ret
        exact ⟨by rw [e.out]; rfl, rfl⟩
    · have e := Lib.hid (ufol_at (s := s) (i := i) hm HF.out (Or.inl (by omega)))
      clear HI
      go_wp2_with fail
      go_ret
      exact ⟨by rw [e.out]; rfl, rfl⟩
end Go.Proofs.YtjelgoeamaejmaaGreat

/- The document's answer for texts: a sign. -/
namespace Go.Proofs.YtjelgoeamaejmaaGreat
open Go.RowKit
set_option maxRecDepth 100000

/-- A sign's first byte c: it has n bytes, the next one's bounds are lo, hi. -/
def Lead (c : Int) (n : Nat) (lo hi : Int) : Prop :=
  (n = 2 ∧ 194 ≤ c ∧ c ≤ 223 ∧ lo = 128 ∧ hi = 191) ∨ (n = 3 ∧ c = 224 ∧ lo = 160 ∧ hi = 191) ∨ (n = 3 ∧ c = 237 ∧ lo = 128 ∧ hi = 159) ∨ (n = 3 ∧ 225 ≤ c ∧ c ≤ 239 ∧ (c == 237) = false ∧ lo = 128 ∧ hi = 191) ∨
  (n = 4 ∧ c = 240 ∧ lo = 144 ∧ hi = 191) ∨ (n = 4 ∧ c = 244 ∧ lo = 128 ∧ hi = 143) ∨ (n = 4 ∧ 241 ≤ c ∧ c ≤ 243 ∧ lo = 128 ∧ hi = 191)
theorem lead_of {c : Int} {m : Nat} (h : umore c = some (m + 1)) : Lead c (m + 2) (ulo c) (uhi c) := by
  unfold Lead ulo uhi
  rcases umore_some h with ⟨h, r1, r2⟩ | ⟨h, r1, r2⟩ | ⟨h, r1, r2⟩ | ⟨h, r1⟩
  · have hm : m + 2 = 4 := by omega
    by_cases e1 : c = 240
    · subst e1; simp [hm]
    by_cases e2 : c = 244
    · subst e2; simp [hm]
    right; right; right; right; right; right
    rw [if_neg (by omega), if_neg e1, if_neg (by omega), if_neg e2]
    omega
  · have hm : m + 2 = 3 := by omega
    by_cases e1 : c = 224
    · subst e1; simp [hm]
    by_cases e2 : c = 237
    · subst e2; simp [hm]
    right; right; right; left
    rw [if_neg e1, if_neg (by omega), if_neg e2, if_neg (by omega), beq_eq_false_iff_ne]
    omega
  · have hm : m + 2 = 2 := by omega
    left
    rw [if_neg (by omega), if_neg (by omega), if_neg (by omega), if_neg (by omega)]
    omega
  · omega
set_option maxHeartbeats 1000000 in
theorem ref_sign_short (s : ByteArray) (hs : s.size ≤ 1000000000) (i n : Nat) (lo hi : Int) (hl : Lead (sb s i) n lo hi) (h0 : i < s.size) (h1 : s.size = i + 1) (w : World) :
    Calls Tryz.prog 65 #[.string s, .int .i64 i] w fun e w' => e = .returned (.tuple #[.int .i64 n, .int .i64 1]) ∧ w = w' := by
  have HI := fun (w : World) (k : Nat) (hk : k < s.size) (x : Int) (hx : x = k) => run_sb (P := Tryz.prog) Tryz.underlying9 w s k hk x hx
  have i0 := HI w i h0 i rfl
  have g1 : (s.size : Int) ≤ (i : Int) + 1 := by omega
  clear HI
  generalize sb s i = c at *
  rcases hl with ⟨rfl, r1, r2, rfl, rfl⟩ | ⟨rfl, rfl, rfl, rfl⟩ | ⟨rfl, rfl, rfl, rfl⟩ | ⟨rfl, r1, r2, r3, rfl, rfl⟩ | ⟨rfl, rfl, rfl, rfl⟩ | ⟨rfl, rfl, rfl, rfl⟩ | ⟨rfl, r1, r2, rfl, rfl⟩
  all_goals (
    go_enter Tryz.func65, Tryz.ntmps65
    go_wp2_with fail
    go_ret2
    exact ⟨rfl, rfl⟩)
set_option maxHeartbeats 2000000 in
theorem ref_sign_bad (s : ByteArray) (hs : s.size ≤ 1000000000) (i n : Nat) (lo hi : Int) (hl : Lead (sb s i) n lo hi) (h1 : i + 1 < s.size) (hb : sb s (i + 1) < lo ∨ hi < sb s (i + 1)) (w : World) :
    Calls Tryz.prog 65 #[.string s, .int .i64 i] w fun e w' => e = .returned (.tuple #[.int .i64 n, .int .i64 1]) ∧ w = w' := by
  have HI := fun (w : World) (k : Nat) (hk : k < s.size) (x : Int) (hx : x = k) => run_sb (P := Tryz.prog) Tryz.underlying9 w s k hk x hx
  have h0 : i < s.size := by omega
  have i0 := HI w i h0 i rfl
  have i1 := HI w (i + 1) h1 ((i : Int) + 1) (by simp)
  have g1 : (i : Int) + 1 < (s.size : Int) := by omega
  clear HI
  generalize sb s i = c at *
  generalize sb s (i + 1) = d at *
  by_cases hd : d < lo
  · clear hb
    rcases hl with ⟨rfl, r1, r2, rfl, rfl⟩ | ⟨rfl, rfl, rfl, rfl⟩ | ⟨rfl, rfl, rfl, rfl⟩ | ⟨rfl, r1, r2, r3, rfl, rfl⟩ | ⟨rfl, rfl, rfl, rfl⟩ | ⟨rfl, rfl, rfl, rfl⟩ | ⟨rfl, r1, r2, rfl, rfl⟩
    all_goals (
      go_enter Tryz.func65, Tryz.ntmps65
      go_wp2_with fail
      go_ret2
      exact ⟨rfl, rfl⟩)
  · have hd2 : hi < d := by omega
    clear hb
    rcases hl with ⟨rfl, r1, r2, rfl, rfl⟩ | ⟨rfl, rfl, rfl, rfl⟩ | ⟨rfl, rfl, rfl, rfl⟩ | ⟨rfl, r1, r2, r3, rfl, rfl⟩ | ⟨rfl, rfl, rfl, rfl⟩ | ⟨rfl, rfl, rfl, rfl⟩ | ⟨rfl, r1, r2, rfl, rfl⟩
    all_goals (
      go_enter Tryz.func65, Tryz.ntmps65
      go_wp2_with fail
      go_ret2
      exact ⟨rfl, rfl⟩)
set_option maxHeartbeats 2000000 in
theorem ref_sign_good (s : ByteArray) (hs : s.size ≤ 1000000000) (i n : Nat) (lo hi : Int) (hl : Lead (sb s i) n lo hi) (h1 : i + 1 < s.size) (hb : lo ≤ sb s (i + 1)) (hb' : sb s (i + 1) ≤ hi) (w : World) :
    Calls Tryz.prog 65 #[.string s, .int .i64 i] w fun e w' => e = .returned (.tuple #[.int .i64 n, .int .i64 (2 + ufol s (i + 2) (n - 2) : Nat)]) ∧ w = w' := by
  have HI := fun (w : World) (k : Nat) (hk : k < s.size) (x : Int) (hx : x = k) => run_sb (P := Tryz.prog) Tryz.underlying9 w s k hk x hx
  have h0 : i < s.size := by omega
  have i0 := HI w i h0 i rfl
  have i1 := HI w (i + 1) h1 ((i : Int) + 1) (by simp)
  have g1 : (i : Int) + 1 < (s.size : Int) := by omega
  have hn : 2 ≤ n ∧ n ≤ 4 := by unfold Lead at hl; omega
  have HF := Lib.hid (ref_follow s hs (i + 2) (n - 2) (by omega) (by omega))
  rw [show ((i + 2 : Nat) : Int) = (i : Int) + 2 by simp, show ((n - 2 : Nat) : Int) = (n : Int) - 2 by omega] at HF
  have hu := ufol_le s (n - 2) (i + 2)
  generalize ufol s (i + 2) (n - 2) = u at *
  have hu' : u ≤ 2 := by omega
  rw [show ((2 + u : Nat) : Int) = 2 + (u : Int) by simp]
  clear HI hu hn
  generalize sb s i = c at *
  generalize sb s (i + 1) = d at *
  rcases hl with ⟨rfl, r1, r2, rfl, rfl⟩ | ⟨rfl, rfl, rfl, rfl⟩ | ⟨rfl, rfl, rfl, rfl⟩ | ⟨rfl, r1, r2, r3, rfl, rfl⟩ | ⟨rfl, rfl, rfl, rfl⟩ | ⟨rfl, rfl, rfl, rfl⟩ | ⟨rfl, r1, r2, rfl, rfl⟩
  all_goals (
    simp only [Int.reduceSub, Int.cast_ofNat_Int] at HF
    go_enter Tryz.func65, Tryz.ntmps65
    go_wp2_with fail
    refine (HF.out w).mono ?_
    rintro e w' ⟨rfl, rfl⟩
    go_wp2_with fail
    go_ret2
    exact ⟨rfl, rfl⟩)
theorem ref_sign_one (s : ByteArray) (i : Nat) (h0 : i < s.size) (hm : umore (sb s i) = some 0) (w : World) :
    Calls Tryz.prog 65 #[.string s, .int .i64 i] w fun e w' => e = .returned (.tuple #[.int .i64 1, .int .i64 1]) ∧ w = w' := by
  have i0 := run_sb (P := Tryz.prog) Tryz.underlying9 w s i h0 i rfl
  have r1 : sb s i ≤ 127 := by have := umore_some hm; omega
  clear hm
  generalize sb s i = c at *
  go_enter Tryz.func65, Tryz.ntmps65
  go_wp2_with fail
  go_ret2
  exact ⟨rfl, rfl⟩
theorem ref_sign_none (s : ByteArray) (i : Nat) (h0 : i < s.size) (hm : umore (sb s i) = none) (w : World) :
    Calls Tryz.prog 65 #[.string s, .int .i64 i] w fun e w' => e = .returned (.tuple #[.int .i64 0, .int .i64 0]) ∧ w = w' := by
  have i0 := run_sb (P := Tryz.prog) Tryz.underlying9 w s i h0 i rfl
  obtain ⟨r1, r2, r3, r4⟩ := umore_none hm
  clear hm
  generalize sb s i = c at *
  go_enter Tryz.func65, Tryz.ntmps65
  go_wp2_with fail
  all_goals go_ret2
  all_goals exact ⟨rfl, rfl⟩
end Go.Proofs.YtjelgoeamaejmaaGreat

/- The document's answer for texts: what a sign tells of the states. -/
namespace Go.Proofs.YtjelgoeamaejmaaGreat
open Go.RowKit
set_option maxRecDepth 100000

theorem ufol_spec (s : ByteArray) : ∀ (n i : Nat), (∀ j, j < ufol s i n → isF s (i + j)) ∧ (ufol s i n < n → ¬ isF s (i + ufol s i n))
  | 0, i => ⟨fun j hj => by simp [ufol] at hj, fun h => by simp [ufol] at h⟩
  | n + 1, i => by
    obtain ⟨h1, h2⟩ := ufol_spec s n (i + 1)
    by_cases hf : isF s i
    · have e : ufol s i (n + 1) = 1 + ufol s (i + 1) n := by
        show (if isF s i then 1 + ufol s (i + 1) n else 0) = _
        rw [if_pos hf]
      rw [e]
      refine ⟨fun j hj => ?_, fun h => ?_⟩
      · cases j with
        | zero => exact hf
        | succ j => rw [show i + (j + 1) = i + 1 + j by omega]; exact h1 j (by omega)
      · rw [show i + (1 + ufol s (i + 1) n) = i + 1 + ufol s (i + 1) n by omega]
        exact h2 (by omega)
    · have e : ufol s i (n + 1) = 0 := by
        show (if isF s i then 1 + ufol s (i + 1) n else 0) = _
        rw [if_neg hf]
      rw [e]
      exact ⟨fun j hj => by omega, fun _ => hf⟩
/-- The state after p bytes of a text. -/
def uS (s : ByteArray) (p : Nat) : UQ := ust uq0 (sbytes s) p
theorem uS_succ (s : ByteArray) (p : Nat) (h : p < s.size) : uS s (p + 1) = ustep (uS s p) (sb s p) := ust_succ _ _ _ (by rw [length_sbytes]; exact h)
theorem ustep_none {q : UQ} {c : Int} (h : q.left = 0) (hw : q.wr = false) (hm : umore c = none) : (ustep q c).wr = true := by
  unfold ustep; rw [if_neg (by simp [hw]), if_pos h, hm]
theorem ustep_some {q : UQ} {c : Int} {n : Nat} (h : q.left = 0) (hw : q.wr = false) (hm : umore c = some n) : ustep q c = ⟨n, ulo c, uhi c, false⟩ := by
  unfold ustep; rw [if_neg (by simp [hw]), if_pos h, hm]
theorem ustep_bad {n : Nat} {lo hi c : Int} (h : c < lo ∨ hi < c) : (ustep ⟨n + 1, lo, hi, false⟩ c).wr = true := by
  unfold ustep; rw [if_neg (by simp), if_neg (by simp), if_pos h]
theorem ustep_good {n : Nat} {lo hi c : Int} (h : lo ≤ c) (h' : c ≤ hi) : ustep ⟨n + 1, lo, hi, false⟩ c = ⟨n, 128, 191, false⟩ := by
  unfold ustep; rw [if_neg (by simp), if_neg (by simp), if_neg (by show ¬ (c < lo ∨ hi < c); omega)]; rfl
/-- What n and k tell of the sign at place p. -/
def Tells (s : ByteArray) (p n k : Nat) : Prop :=
  (n = 0 ∧ k = 0 ∧ (uS s (p + 1)).wr = true) ∨
  (1 ≤ n ∧ n ≤ 4 ∧ k ≤ n ∧ p + k ≤ s.size ∧ (∀ j, j ≤ k → (uS s (p + j)).wr = false) ∧ (k = n → (uS s (p + k)).left = 0) ∧ (k < n → (uS s (p + k)).left ≠ 0 ∧ (p + k < s.size → (uS s (p + k + 1)).wr = true)))
theorem follows {s : ByteArray} {i m : Nat} (h0 : uS s i = ⟨m, 128, 191, false⟩) : ∀ u, u ≤ m → (∀ j, j < u → isF s (i + j)) → uS s (i + u) = ⟨m - u, 128, 191, false⟩
  | 0, _, _ => h0
  | u + 1, hu, hf => by
    have ih := follows h0 u (by omega) (fun j hj => hf j (by omega))
    obtain ⟨g1, g2, g3⟩ := hf u (by omega)
    rw [show i + (u + 1) = i + u + 1 by omega, uS_succ s _ g1, ih, show m - u = m - (u + 1) + 1 by omega, ustep_good g2 g3]
theorem ref_sign (s : ByteArray) (hs : s.size ≤ 1000000000) (p : Nat) (h0 : p < s.size) (hl : (uS s p).left = 0) (hw : (uS s p).wr = false) (w : World) :
    Calls Tryz.prog 65 #[.string s, .int .i64 p] w fun e w' => ∃ n k : Nat, e = .returned (.tuple #[.int .i64 n, .int .i64 k]) ∧ Tells s p n k ∧ w = w' := by
  have e1 := uS_succ s p h0
  cases hm : umore (sb s p) with
  | none =>
    refine (ref_sign_none s p h0 hm w).mono ?_
    rintro e w' ⟨rfl, rfl⟩
    exact ⟨0, 0, rfl, Or.inl ⟨rfl, rfl, by rw [e1]; exact ustep_none hl hw hm⟩, rfl⟩
  | some m =>
    rw [ustep_some hl hw hm] at e1
    cases m with
    | zero =>
      refine (ref_sign_one s p h0 hm w).mono ?_
      rintro e w' ⟨rfl, rfl⟩
      refine ⟨1, 1, rfl, Or.inr ⟨by omega, by omega, by omega, by omega, fun j hj => ?_, fun _ => by rw [e1], fun h => by omega⟩, rfl⟩
      rcases Nat.lt_or_ge j 1 with h | h
      · rw [show j = 0 by omega]; exact hw
      · rw [show j = 1 by omega, e1]
    | succ m =>
      have hL := lead_of hm
      have hm3 : m + 1 ≤ 3 := by have := umore_some hm; omega
      by_cases h1 : p + 1 < s.size
      · have e2 := uS_succ s (p + 1) h1
        rw [e1] at e2
        by_cases hb : sb s (p + 1) < ulo (sb s p) ∨ uhi (sb s p) < sb s (p + 1)
        · refine (ref_sign_bad s hs p (m + 2) _ _ hL h1 hb w).mono ?_
          rintro e w' ⟨rfl, rfl⟩
          refine ⟨m + 2, 1, rfl, Or.inr ⟨by omega, by omega, by omega, by omega, fun j hj => ?_, fun h => by omega, fun _ => ⟨by rw [e1]; exact Nat.succ_ne_zero _, fun _ => by rw [e2]; exact ustep_bad hb⟩⟩, rfl⟩
          rcases Nat.lt_or_ge j 1 with h | h
          · rw [show j = 0 by omega]; exact hw
          · rw [show j = 1 by omega, e1]
        · refine (ref_sign_good s hs p (m + 2) _ _ hL h1 (by omega) (by omega) w).mono ?_
          rintro e w' ⟨rfl, rfl⟩
          rw [ustep_good (by omega) (by omega)] at e2
          obtain ⟨f1, f2⟩ := ufol_spec s m (p + 2)
          have fle := ufol_le s m (p + 2)
          have hf := fun u hu => follows (s := s) (i := p + 2) (m := m) e2 u hu
          rw [show m + 2 - 2 = m by omega]
          have hin : p + (2 + ufol s (p + 2) m) ≤ s.size := by
            rcases Nat.eq_zero_or_pos (ufol s (p + 2) m) with h | h
            · omega
            · have := (f1 (ufol s (p + 2) m - 1) (by omega)).1
              omega
          generalize ufol s (p + 2) m = u at *
          have hu := hf u fle f1
          refine ⟨m + 2, 2 + u, rfl, Or.inr ⟨by omega, by omega, by omega, hin, fun j hj => ?_, fun h => ?_, fun h => ⟨?_, fun hlt => ?_⟩⟩, rfl⟩
          · rcases Nat.lt_or_ge j 1 with h | h
            · rw [show j = 0 by omega]; exact hw
            · rcases Nat.lt_or_ge j 2 with h' | h'
              · rw [show j = 1 by omega, e1]
              · rw [show p + j = p + 2 + (j - 2) by omega, hf (j - 2) (by omega) (fun i hi => f1 i (by omega))]
          · rw [show p + (2 + u) = p + 2 + u by omega, hu]
            show m - u = 0
            omega
          · rw [show p + (2 + u) = p + 2 + u by omega, hu]
            show m - u ≠ 0
            omega
          · rw [uS_succ s _ hlt, show p + (2 + u) = p + 2 + u by omega, hu, show m - u = m - u - 1 + 1 by omega]
            refine ustep_bad ?_
            have := f2 (by omega)
            unfold isF at this
            omega
      · refine (ref_sign_short s hs p (m + 2) _ _ hL h0 (by omega) w).mono ?_
        rintro e w' ⟨rfl, rfl⟩
        refine ⟨m + 2, 1, rfl, Or.inr ⟨by omega, by omega, by omega, by omega, fun j hj => ?_, fun h => by omega, fun _ => ⟨by rw [e1]; exact Nat.succ_ne_zero _, fun h => by omega⟩⟩, rfl⟩
        rcases Nat.lt_or_ge j 1 with h | h
        · rw [show j = 0 by omega]; exact hw
        · rw [show j = 1 by omega, e1]
end Go.Proofs.YtjelgoeamaejmaaGreat

/- The document's answer for texts: First. -/
namespace Go.Proofs.YtjelgoeamaejmaaGreat
open Go.RowKit
set_option maxRecDepth 100000

theorem uS_at {s : ByteArray} (p : Nat) (hp : p < s.size) (h : (uS s p).wr = false) (h' : (uS s (p + 1)).wr = true) : uat uq0 (sbytes s) 0 = p ∧ uok uq0 (sbytes s) = false :=
  ⟨uat_some p (by rw [length_sbytes]; exact hp) h h', uok_wr (k := p + 1) (by rw [length_sbytes]; exact hp) h'⟩
theorem uS_end {s : ByteArray} (h : ∀ j, j ≤ s.size → (uS s j).wr = false) : uat uq0 (sbytes s) 0 = -1 ∧ uok uq0 (sbytes s) = ((uS s s.size).left == 0) := by
  refine ⟨uat_none (fun k hk => h k (by rwa [length_sbytes] at hk)), ?_⟩
  have e : urun uq0 (sbytes s) = uS s s.size := by unfold uS; rw [← length_sbytes, ust_all]
  unfold uok udone
  rw [e, h _ (Nat.le_refl _)]
  rfl
set_option maxHeartbeats 1000000 in
theorem ref_First (s : ByteArray) (hs : s.size ≤ 1000000000) (w : World) :
    Calls Tryz.prog 38 #[.string s] w fun e w' => e = .returned (.tuple #[.int .i64 (uat uq0 (sbytes s) 0), .bool (uok uq0 (sbytes s))]) ∧ w = w' := by
  go_enter Tryz.func38, Tryz.ntmps38
  go_wp2_with fail
  go_loop [4] (fun x => ∃ p : Nat, p ≤ s.size ∧ x = .int .i64 p ∧ (uS s p).left = 0 ∧ ∀ j, j ≤ p → (uS s j).wr = false) (fun x => s.size - (intOf x).toNat)
  case atStart => exact ⟨0, by omega, rfl, rfl, fun j hj => by rw [show j = 0 by omega]; rfl⟩
  case round =>
    obtain ⟨p, hp, rfl, hl, hw⟩ := hrel
    by_cases hlt : p < s.size
    · have HS := Lib.hid (ref_sign s hs p hlt hl (hw p (Nat.le_refl _)) w)
      have HW := Lib.hid hw
      clear hw hl
      go_wp2_with fail
      refine HS.out.mono ?_
      rintro e w' ⟨n, k, rfl, ht, rfl⟩
      clear HS
      rcases ht with ⟨rfl, rfl, hx⟩ | ⟨h1, h4, hkn, hin, hno, heq, hne⟩
      · obtain ⟨ea, eo⟩ := uS_at p hlt (HW.out p (Nat.le_refl _)) hx
        have EX := Lib.hid (And.intro ea eo)
        clear ea eo hx
        go_wp2_with fail
        go_ret2
        exact ⟨by rw [EX.out.1, EX.out.2]; rfl, rfl⟩
      · have hn0 : ((n : Int) == 0) = false := by rw [beq_eq_false_iff_ne]; omega
        have hall : ∀ j, j ≤ p + k → (uS s j).wr = false := fun j hj => by
          rcases Nat.lt_or_ge j p with h | h
          · exact HW.out j (by omega)
          · rw [show j = p + (j - p) by omega]; exact hno _ (by omega)
        have HA := Lib.hid hall
        clear hno HW hall
        by_cases hk : k < n
        · obtain ⟨h5, h6⟩ := hne hk
          by_cases hq : p + k < s.size
          · have h7 := h6 hq
            obtain ⟨ea, eo⟩ := uS_at (p + k) hq (HA.out _ (Nat.le_refl _)) h7
            rw [show ((p + k : Nat) : Int) = (p : Int) + k by simp] at ea
            have EX := Lib.hid (And.intro ea eo)
            clear ea eo h7 h5 h6 heq hne HA
            have hq' : (p : Int) + k < (s.size : Int) := by omega
            go_wp2_with fail
            go_ret2
            exact ⟨by rw [EX.out.1, EX.out.2]; rfl, rfl⟩
          · have hpk : p + k = s.size := by omega
            obtain ⟨ea, eo⟩ := uS_end (s := s) (fun j hj => HA.out j (by omega))
            rw [← hpk, show ((uS s (p + k)).left == 0) = false by simpa using h5] at eo
            have EX := Lib.hid (And.intro ea eo)
            clear ea eo h5 h6 heq hne HA
            have hq' : ¬ (p : Int) + k < (s.size : Int) := by omega
            go_wp2_with fail
            go_ret2
            exact ⟨by rw [EX.out.1, EX.out.2]; rfl, rfl⟩
        · have hkn' : k = n := by omega
          subst hkn'
          have HL := Lib.hid (heq rfl)
          clear heq hne
          go_wp2_with fail
          go_round
          case rel => exact ⟨p + k, hin, by go_num, HL.out, HA.out⟩
          case measure => simp [intOf]; omega
    · have hps : p = s.size := by omega
      subst hps
      obtain ⟨ea, eo⟩ := uS_end hw
      rw [hl] at eo
      have EX := Lib.hid (And.intro ea eo)
      clear ea eo hw hl
      go_wp2_with fail
      go_ret2
      exact ⟨by rw [EX.out.1, EX.out.2]; rfl, rfl⟩
end Go.Proofs.YtjelgoeamaejmaaGreat
