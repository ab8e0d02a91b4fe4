/- The document's answer for texts: sign by sign. -/
import Derived.Test.YtgcgidoikpbfpaaGreatRows
import Derived.Test.YtgcgidoikpbfpaaGreatKAY
import Derived.RegionTactic
import Derived.Test.YtgcgidoikpbfpaaGreatKBB
namespace Go.Proofs.YtgcgidoikpbfpaaGreat
open Go.RowKit

/-- Is a place's byte one that follows? -/
def isF (s : ByteArray) (k : Nat) : Prop := k < s.size ∧ 128 ≤ sb s k ∧ sb s k ≤ 191
instance (s : ByteArray) (k : Nat) : Decidable (isF s k) := by unfold isF; exact inferInstance
/-- How many follow, of n, from a place on. -/
def ufol (s : ByteArray) (i : Nat) : Nat → Nat
  | 0 => 0
  | n + 1 => if isF s i then 1 + ufol s (i + 1) n else 0
theorem ufol_le (s : ByteArray) : ∀ (n i : Nat), ufol s i n ≤ n
  | 0, _ => Nat.le_refl _
  | n + 1, i => by
    unfold ufol
    split
    · have := ufol_le s n (i + 1); omega
    · omega
theorem ufol_at {s : ByteArray} : ∀ {k n i : Nat}, k ≤ n → (∀ j, j < k → isF s (i + j)) → (k = n ∨ ¬ isF s (i + k)) → ufol s i n = k
  | 0, 0, i, _, _, _ => rfl
  | 0, n + 1, i, _, _, h => by
    unfold ufol
    rw [if_neg (by
      rcases h with h | h
      · omega
      · exact h)]
  | k + 1, 0, _, h, _, _ => by omega
  | k + 1, n + 1, i, h, h1, h2 => by
    unfold ufol
    rw [if_pos (show isF s i from h1 0 (by omega)), ufol_at (k := k) (by omega) (fun j hj => by rw [show i + 1 + j = i + (j + 1) by omega]; exact h1 (j + 1) (by omega)) (by
      rcases h2 with h2 | h2
      · left; omega
      · right; rw [show i + 1 + k = i + (k + 1) by omega]; exact h2)]
    omega

set_option maxRecDepth 100000 in
theorem ref_follow (s : ByteArray) (hs : s.size ≤ 1000000000) (i n : Nat) (hi : i ≤ 1000000010) (hn : n ≤ 4) (w : World) :
    Calls Tryz.prog 43 #[.string s, .int .i64 i, .int .i64 n] w fun e w' => e = .returned (.int .i64 (ufol s i n)) ∧ w = w' := by
  have HI := fun (w : World) (k : Nat) (hk : k < s.size) (x : Int) (hx : x = k) => run_sb (P := Tryz.prog) Tryz.underlying9 w s k hk x hx
  go_enter Tryz.func43, Tryz.ntmps43
  go_wp2_with fail
  go_loop [7] (fun k => ∃ m : Nat, m ≤ n ∧ k = .int .i64 m ∧ ∀ j, j < m → isF s (i + j)) (fun k => n - (intOf k).toNat)
  case atStart => exact ⟨0, by omega, rfl, fun j hj => by omega⟩
  case round =>
    obtain ⟨m, hm, rfl, hf⟩ := hrel
    have HF := Lib.hid hf
    clear hf
    by_cases h1 : m < n
    · by_cases h2 : i + m < s.size
      · have hi' := HI w (i + m) h2 ((i : Int) + m) (by simp)
        clear HI
        by_cases h3 : 128 ≤ sb s (i + m)
        · by_cases h4 : sb s (i + m) ≤ 191
          · go_wp2_with fail
            go_round
            case rel => exact ⟨m + 1, by omega, by go_num, fun j hj => (by
              by_cases hjm : j < m
              · exact HF.out j hjm
              · rw [show j = m by omega]; exact ⟨h2, h3, h4⟩)⟩
            case measure => simp [intOf]; omega
          · have e := Lib.hid (ufol_at (s := s) (i := i) hm HF.out (Or.inr (fun hx => h4 hx.2.2)))
            go_wp2_with fail
            go_ret
            exact ⟨by rw [e.out]; rfl, rfl⟩
        · have e := Lib.hid (ufol_at (s := s) (i := i) hm HF.out (Or.inr (fun hx => h3 hx.2.1)))
          go_wp2_with fail
          go_ret
          exact ⟨by rw [e.out]; rfl, rfl⟩
      · have e := Lib.hid (ufol_at (s := s) (i := i) hm HF.out (Or.inr (fun hx => h2 hx.1)))
        have h2' : ¬ ((i : Int) + m < s.size) := by omega
        clear HI
        go_wp2_with fail
        go_ret
        exact ⟨by rw [e.out]; rfl, rfl⟩
    · have e := Lib.hid (ufol_at (s := s) (i := i) hm HF.out (Or.inl (by omega)))
      clear HI
      go_wp2_with fail
      go_ret
      exact ⟨by rw [e.out]; rfl, rfl⟩
end Go.Proofs.YtgcgidoikpbfpaaGreat

/- The document's answer for texts: a sign. -/
namespace Go.Proofs.YtgcgidoikpbfpaaGreat
open Go.RowKit
set_option maxRecDepth 100000

/-- A sign's first byte c: it has n bytes, the next one's bounds are lo, hi. -/
def Lead (c : Int) (n : Nat) (lo hi : Int) : Prop :=
  (n = 2 ∧ 194 ≤ c ∧ c ≤ 223 ∧ lo = 128 ∧ hi = 191) ∨ (n = 3 ∧ c = 224 ∧ lo = 160 ∧ hi = 191) ∨ (n = 3 ∧ c = 237 ∧ lo = 128 ∧ hi = 159) ∨ (n = 3 ∧ 225 ≤ c ∧ c ≤ 239 ∧ (c == 237) = false ∧ lo = 128 ∧ hi = 191) ∨
  (n = 4 ∧ c = 240 ∧ lo = 144 ∧ hi = 191) ∨ (n = 4 ∧ c = 244 ∧ lo = 128 ∧ hi = 143) ∨ (n = 4 ∧ 241 ≤ c ∧ c ≤ 243 ∧ lo = 128 ∧ hi = 191)
theorem lead_of {c : Int} {m : Nat} (h : umore c = some (m + 1)) : Lead c (m + 2) (ulo c) (uhi c) := by
  unfold Lead ulo uhi
  rcases umore_some h with ⟨h, r1, r2⟩ | ⟨h, r1, r2⟩ | ⟨h, r1, r2⟩ | ⟨h, r1⟩
  · have hm : m + 2 = 4 := by omega
    by_cases e1 : c = 240
    · subst e1; simp [hm]
    by_cases e2 : c = 244
    · subst e2; simp [hm]
    right; right; right; right; right; right
    rw [if_neg (by omega), if_neg e1, if_neg (by omega), if_neg e2]
    omega
  · have hm : m + 2 = 3 := by omega
    by_cases e1 : c = 224
    · subst e1; simp [hm]
    by_cases e2 : c = 237
    · subst e2; simp [hm]
    right; right; right; left
    rw [if_neg e1, if_neg (by omega), if_neg e2, if_neg (by omega), beq_eq_false_iff_ne]
    omega
  · have hm : m + 2 = 2 := by omega
    left
    rw [if_neg (by omega), if_neg (by omega), if_neg (by omega), if_neg (by omega)]
    omega
  · omega
set_option maxHeartbeats 1000000 in
theorem ref_sign_short (s : ByteArray) (hs : s.size ≤ 1000000000) (i n : Nat) (lo hi : Int) (hl : Lead (sb s i) n lo hi) (h0 : i < s.size) (h1 : s.size = i + 1) (w : World) :
    Calls Tryz.prog 33 #[.string s, .int .i64 i] w fun e w' => e = .returned (.tuple #[.int .i64 n, .int .i64 1]) ∧ w = w' := by
  have HI := fun (w : World) (k : Nat) (hk : k < s.size) (x : Int) (hx : x = k) => run_sb (P := Tryz.prog) Tryz.underlying9 w s k hk x hx
  have i0 := HI w i h0 i rfl
  have g1 : (s.size : Int) ≤ (i : Int) + 1 := by omega
  clear HI
  generalize sb s i = c at *
  rcases hl with ⟨rfl, r1, r2, rfl, rfl⟩ | ⟨rfl, rfl, rfl, rfl⟩ | ⟨rfl, rfl, rfl, rfl⟩ | ⟨rfl, r1, r2, r3, rfl, rfl⟩ | ⟨rfl, rfl, rfl, rfl⟩ | ⟨rfl, rfl, rfl, rfl⟩ | ⟨rfl, r1, r2, rfl, rfl⟩
  all_goals (
    go_enter Tryz.func33, Tryz.ntmps33
    go_wp2_with fail
    go_ret2
    exact ⟨rfl, rfl⟩)
set_option maxHeartbeats 2000000 in
theorem ref_sign_bad (s : ByteArray) (hs : s.size ≤ 1000000000) (i n : Nat) (lo hi : Int) (hl : Lead (sb s i) n lo hi) (h1 : i + 1 < s.size) (hb : sb s (i + 1) < lo ∨ hi < sb s (i + 1)) (w : World) :
    Calls Tryz.prog 33 #[.string s, .int .i64 i] w fun e w' => e = .returned (.tuple #[.int .i64 n, .int .i64 1]) ∧ w = w' := by
  have HI := fun (w : World) (k : Nat) (hk : k < s.size) (x : Int) (hx : x = k) => run_sb (P := Tryz.prog) Tryz.underlying9 w s k hk x hx
  have h0 : i < s.size := by omega
  have i0 := HI w i h0 i rfl
  have i1 := HI w (i + 1) h1 ((i : Int) + 1) (by simp)
  have g1 : (i : Int) + 1 < (s.size : Int) := by omega
  clear HI
  generalize sb s i = c at *
  generalize sb s (i + 1) = d at *
  by_cases hd : d < lo
  · clear hb
    rcases hl with ⟨rfl, r1, r2, rfl, rfl⟩ | ⟨rfl, rfl, rfl, rfl⟩ | ⟨rfl, rfl, rfl, rfl⟩ | ⟨rfl, r1, r2, r3, rfl, rfl⟩ | ⟨rfl, rfl, rfl, rfl⟩ | ⟨rfl, rfl, rfl, rfl⟩ | ⟨rfl, r1, r2, rfl, rfl⟩
    all_goals (
      go_enter Tryz.func33, Tryz.ntmps33
      go_wp2_with fail
      go_ret2
      exact ⟨rfl, rfl⟩)
  · have hd2 : hi < d := by omega
    clear hb
    rcases hl with ⟨rfl, r1, r2, rfl, rfl⟩ | ⟨rfl, rfl, rfl, rfl⟩ | ⟨rfl, rfl, rfl, rfl⟩ | ⟨rfl, r1, r2, r3, rfl, rfl⟩ | ⟨rfl, rfl, rfl, rfl⟩ | ⟨rfl, rfl, rfl, rfl⟩ | ⟨rfl, r1, r2, rfl, rfl⟩
    all_goals (
      go_enter Tryz.func33, Tryz.ntmps33
      go_wp2_with fail
      go_ret2
      exact ⟨rfl, rfl⟩)
set_option maxHeartbeats 2000000 in
theorem ref_sign_good (s : ByteArray) (hs : s.size ≤ 1000000000) (i n : Nat) (lo hi : Int) (hl : Lead (sb s i) n lo hi) (h1 : i + 1 < s.size) (hb : lo ≤ sb s (i + 1)) (hb' : sb s (i + 1) ≤ hi) (w : World) :
    Calls Tryz.prog 33 #[.string s, .int .i64 i] w fun e w' => e = .returned (.tuple #[.int .i64 n, .int .i64 (2 + ufol s (i + 2) (n - 2) : Nat)]) ∧ w = w' := by
  have HI := fun (w : World) (k : Nat) (hk : k < s.size) (x : Int) (hx : x = k) => run_sb (P := Tryz.prog) Tryz.underlying9 w s k hk x hx
  have h0 : i < s.size := by omega
  have i0 := HI w i h0 i rfl
  have i1 := HI w (i + 1) h1 ((i : Int) + 1) (by simp)
  have g1 : (i : Int) + 1 < (s.size : Int) := by omega
  have hn : 2 ≤ n ∧ n ≤ 4 := by unfold Lead at hl; omega
  have HF := Lib.hid (ref_follow s hs (i + 2) (n - 2) (by omega) (by omega))
  rw [show ((i + 2 : Nat) : Int) = (i : Int) + 2 by simp, show ((n - 2 : Nat) : Int) = (n : Int) - 2 by omega] at HF
  have hu := ufol_le s (n - 2) (i + 2)
  generalize ufol s (i + 2) (n - 2) = u at *
  have hu' : u ≤ 2 := by omega
  rw [show ((2 + u : Nat) : Int) = 2 + (u : Int) by simp]
  clear HI hu hn
  generalize sb s i = c at *
  generalize sb s (i + 1) = d at *
  rcases hl with ⟨rfl, r1, r2, rfl, rfl⟩ | ⟨rfl, rfl, rfl, rfl⟩ | ⟨rfl, rfl, rfl, rfl⟩ | ⟨rfl, r1, r2, r3, rfl, rfl⟩ | ⟨rfl, rfl, rfl, rfl⟩ | ⟨rfl, rfl, rfl, rfl⟩ | ⟨rfl, r1, r2, rfl, rfl⟩
  all_goals (
    simp only [Int.reduceSub, Int.cast_ofNat_Int] at HF
    go_enter Tryz.func33, Tryz.ntmps33
    go_wp2_with fail
    refine (HF.out w).mono ?_
    rintro e w' ⟨rfl, rfl⟩
    go_wp2_with fail
    go_ret2
    exact ⟨rfl, rfl⟩)
theorem ref_sign_one (s : ByteArray) (i : Nat) (h0 : i < s.size) (hm : umore (sb s i) = some 0) (w : World) :
    Calls Tryz.prog 33 #[.string s, .int .i64 i] w fun e w' => e = .returned (.tuple #[.int .i64 1, .int .i64 1]) ∧ w = w' := by
  have i0 := run_sb (P := Tryz.prog) Tryz.underlying9 w s i h0 i rfl
  have r1 : sb s i ≤ 127 := by have := umore_some hm; omega
  clear hm
  generalize sb s i = c at *
  go_enter Tryz.func33, Tryz.ntmps33
  go_wp2_with fail
  go_ret2
  exact ⟨rfl, rfl⟩
theorem ref_sign_none (s : ByteArray) (i : Nat) (h0 : i < s.size) (hm : umore (sb s i) = none) (w : World) :
    Calls Tryz.prog 33 #[.string s, .int .i64 i] w fun e w' => e = .returned (.tuple #[.int .i64 0, .int .i64 0]) ∧ w = w' := by
  have i0 := run_sb (P := Tryz.prog) Tryz.underlying9 w s i h0 i rfl
  obtain ⟨r1, r2, r3, r4⟩ := umore_none hm
  clear hm
  generalize sb s i = c at *
  go_enter Tryz.func33, Tryz.ntmps33
  go_wp2_with fail
  all_goals go_ret2
  all_goals exact ⟨rfl, rfl⟩
end Go.Proofs.YtgcgidoikpbfpaaGreat

/- The document's answer for texts: what a sign tells of the states. -/
namespace Go.Proofs.YtgcgidoikpbfpaaGreat
open Go.RowKit
set_option maxRecDepth 100000

theorem ufol_spec (s : ByteArray) : ∀ (n i : Nat), (∀ j, j < ufol s i n → isF s (i + j)) ∧ (ufol s i n < n → ¬ isF s (i + ufol s i n))
  | 0, i => ⟨fun j hj => by simp [ufol] at hj, fun h => by simp [ufol] at h⟩
  | n + 1, i => by
    obtain ⟨h1, h2⟩ := ufol_spec s n (i + 1)
    by_cases hf : isF s i
    · have e : ufol s i (n + 1) = 1 + ufol s (i + 1) n := by
        show (if isF s i then 1 + ufol s (i + 1) n else 0) = _
        rw [if_pos hf]
      rw [e]
      refine ⟨fun j hj => ?_, fun h => ?_⟩
      · cases j with
        | zero => exact hf
        | succ j => rw [show i + (j + 1) = i + 1 + j by omega]; exact h1 j (by omega)
      · rw [show i + (1 + ufol s (i + 1) n) = i + 1 + ufol s (i + 1) n by omega]
        exact h2 (by omega)
    · have e : ufol s i (n + 1) = 0 := by
        show (if isF s i then 1 + ufol s (i + 1) n else 0) = _
        rw [if_neg hf]
      rw [e]
      exact ⟨fun j hj => by omega, fun _ => hf⟩
/-- The state after p bytes of a text. -/
def uS (s : ByteArray) (p : Nat) : UQ := ust uq0 (sbytes s) p
theorem uS_succ (s : ByteArray) (p : Nat) (h : p < s.size) : uS s (p + 1) = ustep (uS s p) (sb s p) := ust_succ _ _ _ (by rw [length_sbytes]; exact h)
theorem ustep_none {q : UQ} {c : Int} (h : q.left = 0) (hw : q.wr = false) (hm : umore c = none) : (ustep q c).wr = true := by
  unfold ustep; rw [if_neg (by simp [hw]), if_pos h, hm]
theorem ustep_some {q : UQ} {c : Int} {n : Nat} (h : q.left = 0) (hw : q.wr = false) (hm : umore c = some n) : ustep q c = ⟨n, ulo c, uhi c, false⟩ := by
  unfold ustep; rw [if_neg (by simp [hw]), if_pos h, hm]
theorem ustep_bad {n : Nat} {lo hi c : Int} (h : c < lo ∨ hi < c) : (ustep ⟨n + 1, lo, hi, false⟩ c).wr = true := by
  unfold ustep; rw [if_neg (by simp), if_neg (by simp), if_pos h]
theorem ustep_good {n : Nat} {lo hi c : Int} (h : lo ≤ c) (h' : c ≤ hi) : ustep ⟨n + 1, lo, hi, false⟩ c = ⟨n, 128, 191, false⟩ := by
  unfold ustep; rw [if_neg (by simp), if_neg (by simp), if_neg (by show ¬ (c < lo ∨ hi < c); omega)]; rfl
/-- What n and k tell of the sign at place p. -/
def Tells (s : ByteArray) (p n k : Nat) : Prop :=
  (n = 0 ∧ k = 0 ∧ (uS s (p + 1)).wr = true) ∨
  (1 ≤ n ∧ n ≤ 4 ∧ k ≤ n ∧ p + k ≤ s.size ∧ (∀ j, j ≤ k → (uS s (p + j)).wr = false) ∧ (k = n → (uS s (p + k)).left = 0) ∧ (k < n → (uS s (p + k)).left ≠ 0 ∧ (p + k < s.size → (uS s (p + k + 1)).wr = true)))
theorem follows {s : ByteArray} {i m : Nat} (h0 : uS s i = ⟨m, 128, 191, false⟩) : ∀ u, u ≤ m → (∀ j, j < u → isF s (i + j)) → uS s (i + u) = ⟨m - u, 128, 191, false⟩
  | 0, _, _ => h0
  | u + 1, hu, hf => by
    have ih := follows h0 u (by omega) (fun j hj => hf j (by omega))
    obtain ⟨g1, g2, g3⟩ := hf u (by omega)
    rw [show i + (u + 1) = i + u + 1 by omega, uS_succ s _ g1, ih, show m - u = m - (u + 1) + 1 by omega, ustep_good g2 g3]
theorem ref_sign (s : ByteArray) (hs : s.size ≤ 1000000000) (p : Nat) (h0 : p < s.size) (hl : (uS s p).left = 0) (hw : (uS s p).wr = false) (w : World) :
    Calls Tryz.prog 33 #[.string s, .int .i64 p] w fun e w' => ∃ n k : Nat, e = .returned (.tuple #[.int .i64 n, .int .i64 k]) ∧ Tells s p n k ∧ w = w' := by
  have e1 := uS_succ s p h0
  cases hm : umore (sb s p) with
  | none =>
    refine (ref_sign_none s p h0 hm w).mono ?_
    rintro e w' ⟨rfl, rfl⟩
    exact ⟨0, 0, rfl, Or.inl ⟨rfl, rfl, by rw [e1]; exact ustep_none hl hw hm⟩, rfl⟩
  | some m =>
    rw [ustep_some hl hw hm] at e1
    cases m with
    | zero =>
      refine (ref_sign_one s p h0 hm w).mono ?_
      rintro e w' ⟨rfl, rfl⟩
      refine ⟨1, 1, rfl, Or.inr ⟨by omega, by omega, by omega, by omega, fun j hj => ?_, fun _ => by rw [e1], fun h => by omega⟩, rfl⟩
      rcases Nat.lt_or_ge j 1 with h | h
      · rw [show j = 0 by omega]; exact hw
      · rw [show j = 1 by omega, e1]
    | succ m =>
      have hL := lead_of hm
      have hm3 : m + 1 ≤ 3 := by have := umore_some hm; omega
      by_cases h1 : p + 1 < s.size
      · have e2 := uS_succ s (p + 1) h1
        rw [e1] at e2
        by_cases hb : sb s (p + 1) < ulo (sb s p) ∨ uhi (sb s p) < sb s (p + 1)
        · refine (ref_sign_bad s hs p (m + 2) _ _ hL h1 hb w).mono ?_
          rintro e w' ⟨rfl, rfl⟩
          refine ⟨m + 2, 1, rfl, Or.inr ⟨by omega, by omega, by omega, by omega, fun j hj => ?_, fun h => by omega, fun _ => ⟨by rw [e1]; exact Nat.succ_ne_zero _, fun _ => by rw [e2]; exact ustep_bad hb⟩⟩, rfl⟩
          rcases Nat.lt_or_ge j 1 with h | h
          · rw [show j = 0 by omega]; exact hw
          · rw [show j = 1 by omega, e1]
        · refine (ref_sign_good s hs p (m + 2) _ _ hL h1 (by omega) (by omega) w).mono ?_
          rintro e w' ⟨rfl, rfl⟩
          rw [ustep_good (by omega) (by omega)] at e2
          obtain ⟨f1, f2⟩ := ufol_spec s m (p + 2)
          have fle := ufol_le s m (p + 2)
          have hf := fun u hu => follows (s := s) (i := p + 2) (m := m) e2 u hu
          rw [show m + 2 - 2 = m by omega]
          have hin : p + (2 + ufol s (p + 2) m) ≤ s.size := by
            rcases Nat.eq_zero_or_pos (ufol s (p + 2) m) with h | h
            · omega
            · have := (f1 (ufol s (p + 2) m - 1) (by omega)).1
              omega
          generalize ufol s (p + 2) m = u at *
          have hu := hf u fle f1
          refine ⟨m + 2, 2 + u, rfl, Or.inr ⟨by omega, by omega, by omega, hin, fun j hj => ?_, fun h => ?_, fun h => ⟨?_, fun hlt => ?_⟩⟩, rfl⟩
          · rcases Nat.lt_or_ge j 1 with h | h
            · rw [show j = 0 by omega]; exact hw
            · rcases Nat.lt_or_ge j 2 with h' | h'
              · rw [show j = 1 by omega, e1]
              · rw [show p + j = p + 2 + (j - 2) by omega, hf (j - 2) (by omega) (fun i hi => f1 i (by omega))]
          · rw [show p + (2 + u) = p + 2 + u by omega, hu]
            show m - u = 0
            omega
          · rw [show p + (2 + u) = p + 2 + u by omega, hu]
            show m - u ≠ 0
            omega
          · rw [uS_succ s _ hlt, show p + (2 + u) = p + 2 + u by omega, hu, show m - u = m - u - 1 + 1 by omega]
            refine ustep_bad ?_
            have := f2 (by omega)
            unfold isF at this
            omega
      · refine (ref_sign_short s hs p (m + 2) _ _ hL h0 (by omega) w).mono ?_
        rintro e w' ⟨rfl, rfl⟩
        refine ⟨m + 2, 1, rfl, Or.inr ⟨by omega, by omega, by omega, by omega, fun j hj => ?_, fun h => by omega, fun _ => ⟨by rw [e1]; exact Nat.succ_ne_zero _, fun h => by omega⟩⟩, rfl⟩
        rcases Nat.lt_or_ge j 1 with h | h
        · rw [show j = 0 by omega]; exact hw
        · rw [show j = 1 by omega, e1]
end Go.Proofs.YtgcgidoikpbfpaaGreat

/- The document's answer for texts: First. -/
namespace Go.Proofs.YtgcgidoikpbfpaaGreat
open Go.RowKit
set_option maxRecDepth 100000

theorem uS_at {s : ByteArray} (p : Nat) (hp : p < s.size) (h : (uS s p).wr = false) (h' : (uS s (p + 1)).wr = true) : uat uq0 (sbytes s) 0 = p ∧ uok uq0 (sbytes s) = false :=
  ⟨uat_some p (by rw [length_sbytes]; exact hp) h h', uok_wr (k := p + 1) (by rw [length_sbytes]; exact hp) h'⟩
theorem uS_end {s : ByteArray} (h : ∀ j, j ≤ s.size → (uS s j).wr = false) : uat uq0 (sbytes s) 0 = -1 ∧ uok uq0 (sbytes s) = ((uS s s.size).left == 0) := by
  refine ⟨uat_none (fun k hk => h k (by rwa [length_sbytes] at hk)), ?_⟩
  have e : urun uq0 (sbytes s) = uS s s.size := by unfold uS; rw [← length_sbytes, ust_all]
  unfold uok udone
  rw [e, h _ (Nat.le_refl _)]
  rfl
set_option maxHeartbeats 1000000 in
theorem ref_First (s : ByteArray) (hs : s.size ≤ 1000000000) (w : World) :
    Calls Tryz.prog 25 #[.string s] w fun e w' => e = .returned (.tuple #[.int .i64 (uat uq0 (sbytes s) 0), .bool (uok uq0 (sbytes s))]) ∧ w = w' := by
  go_enter Tryz.func25, Tryz.ntmps25
  go_wp2_with fail
  go_loop [4] (fun x => ∃ p : Nat, p ≤ s.size ∧ x = .int .i64 p ∧ (uS s p).left = 0 ∧ ∀ j, j ≤ p → (uS s j).wr = false) (fun x => s.size - (intOf x).toNat)
  case atStart => exact ⟨0, by omega, rfl, rfl, fun j hj => by rw [show j = 0 by omega]; rfl⟩
  case round =>
    obtain ⟨p, hp, rfl, hl, hw⟩ := hrel
    by_cases hlt : p < s.size
    · have HS := Lib.hid (ref_sign s hs p hlt hl (hw p (Nat.le_refl _)) w)
      have HW := Lib.hid hw
      clear hw hl
      go_wp2_with fail
      refine HS.out.mono ?_
      rintro e w' ⟨n, k, rfl, ht, rfl⟩
      clear HS
      rcases ht with ⟨rfl, rfl, hx⟩ | ⟨h1, h4, hkn, hin, hno, heq, hne⟩
      · obtain ⟨ea, eo⟩ := uS_at p hlt (HW.out p (Nat.le_refl _)) hx
        have EX := Lib.hid (And.intro ea eo)
        clear ea eo hx
        go_wp2_with fail
        go_ret2
        exact ⟨by rw [EX.out.1, EX.out.2]; rfl, rfl⟩
      · have hn0 : ((n : Int) == 0) = false := by rw [beq_eq_false_iff_ne]; omega
        have hall : ∀ j, j ≤ p + k → (uS s j).wr = false := fun j hj => by
          rcases Nat.lt_or_ge j p with h | h
          · exact HW.out j (by omega)
          · rw [show j = p + (j - p) by omega]; exact hno _ (by omega)
        have HA := Lib.hid hall
        clear hno HW hall
        by_cases hk : k < n
        · obtain ⟨h5, h6⟩ := hne hk
          by_cases hq : p + k < s.size
          · have h7 := h6 hq
            obtain ⟨ea, eo⟩ := uS_at (p + k) hq (HA.out _ (Nat.le_refl _)) h7
            rw [show ((p + k : Nat) : Int) = (p : Int) + k by simp] at ea
            have EX := Lib.hid (And.intro ea eo)
            clear ea eo h7 h5 h6 heq hne HA
            have hq' : (p : Int) + k < (s.size : Int) := by omega
            go_wp2_with fail
            go_ret2
            exact ⟨by rw [EX.out.1, EX.out.2]; rfl, rfl⟩
          · have hpk : p + k = s.size := by omega
            obtain ⟨ea, eo⟩ := uS_end (s := s) (fun j hj => HA.out j (by omega))
            rw [← hpk, show ((uS s (p + k)).left == 0) = false by simpa using h5] at eo
            have EX := Lib.hid (And.intro ea eo)
            clear ea eo h5 h6 heq hne HA
            have hq' : ¬ (p : Int) + k < (s.size : Int) := by omega
            go_wp2_with fail
            go_ret2
            exact ⟨by rw [EX.out.1, EX.out.2]; rfl, rfl⟩
        · have hkn' : k = n := by omega
          subst hkn'
          have HL := Lib.hid (heq rfl)
          clear heq hne
          go_wp2_with fail
          go_round
          case rel => exact ⟨p + k, hin, by go_num, HL.out, HA.out⟩
          case measure => simp [intOf]; omega
    · have hps : p = s.size := by omega
      subst hps
      obtain ⟨ea, eo⟩ := uS_end hw
      rw [hl] at eo
      have EX := Lib.hid (And.intro ea eo)
      clear ea eo hw hl
      go_wp2_with fail
      go_ret2
      exact ⟨by rw [EX.out.1, EX.out.2]; rfl, rfl⟩
end Go.Proofs.YtgcgidoikpbfpaaGreat

/- Package ullageref08: wrong. -/
namespace Go.Proofs.YtgcgidoikpbfpaaGreat
open Go.RowKit

theorem evens_get : ∀ (l : List It) (i : Nat), (evens l)[i]? = l[2 * i]?
  | [], i => by simp [evens]
  | [a], 0 => by simp [evens]
  | [a], i + 1 => by simp [evens]
  | a :: b :: r, 0 => by simp [evens]
  | a :: b :: r, i + 1 => by
    rw [evens, List.getElem?_cons_succ, evens_get r i, show 2 * (i + 1) = 2 * i + 1 + 1 by omega, List.getElem?_cons_succ, List.getElem?_cons_succ]
theorem twice_of {l : List It} {i j : Nat} {X : It} (hi : i % 2 = 0) (hj : j % 2 = 0) (hij : i < j) (h1 : l[i]? = some X) (h2 : l[j]? = some X) : twiceB l = true := by
  rw [twiceB_true]
  have g1 := evens_get l (i / 2)
  have g2 := evens_get l (j / 2)
  rw [show 2 * (i / 2) = i by omega, h1] at g1
  rw [show 2 * (j / 2) = j by omega, h2] at g2
  obtain ⟨k1, e1⟩ := List.getElem?_eq_some_iff.1 g1
  obtain ⟨k2, e2⟩ := List.getElem?_eq_some_iff.1 g2
  exact ⟨i / 2, j / 2, by omega, k2, e1.trans e2.symm⟩
theorem not_twice {l : List It} (h : ∀ (i j : Nat) (X : It), i % 2 = 0 → j % 2 = 0 → i < j → l[i]? = some X → l[j]? = some X → False) : twiceB l = false := by
  rw [twiceB_false]
  rintro ⟨i, j, hi, hj, he⟩
  have g1 := evens_get l i
  have g2 := evens_get l j
  rw [List.getElem?_eq_getElem (by omega)] at g1
  rw [List.getElem?_eq_getElem hj, ← he] at g2
  exact h (2 * i) (2 * j) _ (by omega) (by omega) (by omega) g1.symm g2.symm
theorem formK_out {k m : Int} {a b : Bool} (h : k < 0 ∨ 8 < k) : formK k a b m = false := by
  unfold formK
  rw [if_neg (by omega), if_neg (by omega), if_neg (by omega), if_neg (by omega), if_neg (by omega)]
set_option maxRecDepth 100000 in
set_option maxHeartbeats 4000000 in
theorem ref_NaN (x : Nat) (hx : x < 2 ^ 64) (w : World) :
    Calls Tryz.prog 24 #[.int .u64 x] w fun e w' => e = .returned (.bool (decide (FNan 11 52 x))) ∧ w' = w := by
  go_enter Tryz.func24, Tryz.ntmps24
  go_wp2_with fail
  all_goals go_ret
  all_goals refine ⟨?_, rfl⟩
  · show Ending.returned (Value.bool ((x : Int) % 4503599627370496 != 0)) = _
    refine congrArg (fun b => Ending.returned (Value.bool b)) ?_
    rw [Bool.eq_iff_iff, decide_eq_true_iff, bne_iff_ne]
    unfold FNan fex ffr
    omega
  · show Ending.returned (Value.bool false) = _
    refine congrArg (fun b => Ending.returned (Value.bool b)) ?_
    rw [eq_comm, decide_eq_false_iff_not]
    unfold FNan fex ffr
    omega
set_option maxRecDepth 100000 in
set_option maxHeartbeats 4000000 in
theorem ref_wrong (t : It) (A : Option Addr) (cap : Nat) (w : World) (hn0 : 0 ≤ t.n) (hn1 : t.n < 18446744073709551616) (hs : t.s.size ≤ 1000000000) (hc : t.count ≤ 1099511627776) (h : AtV w t A cap) :
    Calls Tryz.prog 17 #[vI t A cap] w fun e w' => e = .returned (.int .i64 (wrongI t)) ∧ Below w.heap.size w w' := by
  obtain ⟨k, n, s, l⟩ := t
  obtain ⟨w1, hw1, b1, S⟩ := iblk1 w 25 #[.int .i64 k, .int .u64 n, .string s, .slice A l.length cap]
  obtain ⟨p0, p1, p2, p3, -⟩ := iblk b1
  have HS := Lib.hid S
  clear S b1
  simp only [vI, It.k, It.n, It.s, It.l]
  obtain ⟨r, hr⟩ : ∃ r, wrongI (It.mk k n s l) = r := ⟨_, rfl⟩
  rw [hr]
  have HR := Lib.hid hr
  clear hr
  have hm0 : (0 : Int) ≤ l.length := by omega
  go_enter Tryz.func17, Tryz.ntmps17
  by_cases h5 : k = 5
  · subst h5
    have H1 := Lib.hid (h.on HS.out)
    have HCB : RowKit.Hid (∀ X, X ∈ l → X.count ≤ 1099511627776) := Lib.hid fun X hX => by
      have := count_le_of_mem hX
      simp only [It.count] at hc; omega
    have hml : (l.length : Int) < 1099511627776 := by
      have := length_le_countL l
      simp only [It.count] at hc; omega
    simp only [It.n, It.s] at hn0 hn1 hs
    obtain ⟨m, hm⟩ : ∃ m, l.length = m := ⟨_, rfl⟩
    rw [hm] at hw1 p3 hml hm0 ⊢
    have HM := Lib.hid hm
    clear hm h hc
    by_cases hf : n = 0 ∧ s.toList = [] ∧ (m : Int) % 2 = 0
    · obtain ⟨rfl, hs0, hpar⟩ := hf
      have HW : RowKit.Hid (r = if twiceB l then 14 else 0) := Lib.hid (by
        rw [← HR.out]
        unfold wrongI
        rw [if_neg, if_neg, if_neg, ]
        · simp [It.k, It.l]
        · simp [It.k]
        · simp [rangB, It.k]
        · simp [formB, formK, It.k, It.n, It.s, It.l, HM.out, hs0, hpar])
      go_wp2_with fail
      clear hw1
      have HG := Lib.hid (block_lt_of_cell p3)
      go_loopw [8] (fun i wr => ∃ p : Nat, p ≤ m ∧ p % 2 = 0 ∧ i = .int .i64 (p : Int) ∧ RowKit.Hid (Below w1.heap.size w1 wr) ∧ RowKit.Hid (∀ i j X, i < p → i % 2 = 0 → j % 2 = 0 → i < j → l[i]? = some X → l[j]? = some X → False)) (fun i _ => m - (intOf i).toNat)
      case atStart => exact ⟨0, by omega, by omega, rfl, Lib.hid (Below.refl _ _), Lib.hid fun i j X h => absurd h (by omega)⟩
      case round =>
        obtain ⟨p, hp, hp2, rfl, HB, HE⟩ := hrel
        obtain ⟨wo, rfl⟩ : ∃ wo, wo = wr := ⟨_, rfl⟩
        have z3 := (HB.out.cell (p := ⟨w.heap.size, 3, none⟩) HG.out).trans p3
        by_cases hlt : p < m
        · have hltI : (p : Int) < m := by omega
          have hpp : p + 2 ≤ m := by omega
          have e1 : wrap64 ((p : Int) + 2) = (p : Int) + 2 := by unfold wrap64; omega
          go_wp2_with fail
          go_loopw [9] (fun i wi => ∃ q : Nat, p + 2 ≤ q ∧ q ≤ m ∧ q % 2 = 0 ∧ i = .int .i64 (q : Int) ∧ RowKit.Hid (Below w1.heap.size w1 wi) ∧ RowKit.Hid (∀ j X, p < j → j < q → j % 2 = 0 → l[p]? = some X → l[j]? = some X → False)) (fun i _ => m - (intOf i).toNat)
          case atStart => exact ⟨p + 2, by omega, by omega, by omega, by simp, HB, Lib.hid fun j X h1 h2 h3 => absurd h2 (by omega)⟩
          case round =>
            obtain ⟨q, hq0, hq, hq2, rfl, HBI, HEI⟩ := hrel
            have y3 := (HBI.out.cell (p := ⟨w.heap.size, 3, none⟩) HG.out).trans p3
            by_cases hltq : q < m
            · have hltJ : (q : Int) < m := by omega
              have e2 : wrap64 ((q : Int) + 2) = (q : Int) + 2 := by unfold wrap64; omega
              obtain ⟨i1, o1, X, A1', c1', rfl, hb1, hX, mX, x0, x1, x2, x3, hx⟩ := (H1.out.on HBI.out).at_.item (i := p) (by show p < l.length; rw [HM.out]; exact hlt)
              obtain ⟨i2, o2, Y, A2', c2', hA2, hb2, hY, mY, y0, y1, y2, yy3, hy⟩ := (H1.out.on HBI.out).at_.item (i := q) (by show q < l.length; rw [HM.out]; exact hltq)
              injection hA2 with hA2
              injection hA2 with ea eb
              subst ea eb
              have HX := Lib.hid (And.intro hX hY)
              have hcc := fun W h1 h2 => ref_Same X.count X Y A1' A2' c1' c2' W (Nat.le_refl _) (HCB.out X mX) (hx.on h1) (hy.on h2)
              obtain ⟨rs, hr⟩ : ∃ r, sameB X Y = r := ⟨_, rfl⟩
              simp only [vI] at hcc
              rw [hr] at hcc
              have HRS := Lib.hid hr
              have HCC := Lib.hid hcc
              clear hx hy hX hY hcc mX mY hr
              go_wp2_with fail
              refine wp_region_quiet_tail 10 (by kernel_rfl) (by kernel_rfl) ?_
              simp only [List.take_succ_cons, List.take_zero, List.drop_succ_cons, List.drop_zero]
              repeat (quiet_step (fail))
              refine wpQuiet_nil ?_
              rintro _ ⟨nq, rfl⟩
              have HQ := Lib.hid (below_drewN (Below.refl wr.heap.size wr) nq)
              generalize wr.drewN nq = w2 at *
              cases rs
              · go_wp2_with (go_at_call 26; refine (HCC.out w2 HQ.out HQ.out).mono ?_; rintro e w3 ⟨rfl, hb3⟩; have HB3 := Lib.hid hb3; clear hb3)
                go_roundw
                case rel =>
                  refine ⟨q + 2, by omega, by omega, by omega, by simp, Lib.hid (HBI.out.trans ((HQ.out.trans (HB3.out.mono HQ.out.size)).mono HBI.out.size)), Lib.hid fun j Z h1 h2 h3 h4 h5 => ?_⟩
                  rcases (by omega : j < q ∨ j = q ∨ j = q + 1) with h | rfl | rfl
                  · exact HEI.out j Z h1 h h3 h4 h5
                  · have g1 := HX.out.1
                    have g2 := HX.out.2
                    simp only [It.l] at g1 g2
                    rw [h4] at g1
                    rw [h5] at g2
                    injection g1 with g1
                    injection g2 with g2
                    have := HRS.out
                    rw [← g1, ← g2, sameB_refl] at this
                    cases this
                  · omega
                case measure => simp [intOf]; omega
              · go_wp2_with (go_at_call 26; refine (HCC.out w2 HQ.out HQ.out).mono ?_; rintro e w3 ⟨rfl, hb3⟩; have HB3 := Lib.hid hb3; clear hb3)
                go_ret
                refine ⟨?_, HS.out.trans ((HBI.out.trans ((HQ.out.trans (HB3.out.mono HQ.out.size)).mono HBI.out.size)).mono HS.out.size)⟩
                have e := sameB_true.1 HRS.out
                have g2 := HX.out.2
                rw [← e] at g2
                rw [HW.out, twice_of (l := l) hp2 hq2 (by omega) HX.out.1 g2]
                rfl
            · have hltJ : ¬ (q : Int) < m := by omega
              go_wp2_with fail
              go_roundw
              case rel =>
                have hstep : ∀ i j X, i < p + 2 → i % 2 = 0 → j % 2 = 0 → i < j → l[i]? = some X → l[j]? = some X → False := by
                  intro i j X h1 h2 h3 h4 h5 h6
                  rcases (by omega : i < p ∨ i = p ∨ i = p + 1) with h | rfl | rfl
                  · exact HE.out i j X h h2 h3 h4 h5 h6
                  · have hj := (List.getElem?_eq_some_iff.1 h6).1
                    rw [HM.out] at hj
                    exact HEI.out j X h4 (by omega) h3 h5 h6
                  · omega
                exact ⟨p + 2, by omega, by omega, by omega, Lib.hid hstep⟩
              case measure => simp [intOf]; omega
        · have hltI : ¬ (p : Int) < m := by omega
          go_wp2_with fail
          go_ret
          refine ⟨?_, HS.out.trans (HB.out.mono HS.out.size)⟩
          rw [HW.out, not_twice fun i j X h1 h2 h3 h4 h5 => HE.out i j X (by
            have hj := (List.getElem?_eq_some_iff.1 h4).1
            rw [HM.out] at hj
            omega) h1 h2 h3 h4 h5]
          rfl
    · have HW : RowKit.Hid (r = 11) := Lib.hid (by
        rw [← HR.out]
        unfold wrongI
        rw [if_pos]
        unfold formB formK
        simp only [It.k, It.n, It.s, It.l, HM.out]
        simp
        simp at hf
        exact hf)
      by_cases hn : n = 0
      · subst hn
        by_cases hs0 : s.toList = []
        · have hpar : ¬ (m : Int) % 2 = 0 := fun h => hf ⟨rfl, hs0, h⟩
          clear hf hml hn1
          go_wp2_with fail
          all_goals go_ret
          all_goals exact ⟨by rw [HW.out]; rfl, HS.out⟩
        · clear hf hml hn1
          go_wp2_with fail
          all_goals go_ret
          all_goals exact ⟨by rw [HW.out]; rfl, HS.out⟩
      · clear hf hml hn1
        go_wp2_with fail
        all_goals go_ret
        all_goals exact ⟨by rw [HW.out]; rfl, HS.out⟩
  by_cases hko : k < 0 ∨ 8 < k
  · have HE : RowKit.Hid (formB (It.mk k n s l) = false) := Lib.hid (formK_out hko)
    go_wp2_with fail
    all_goals go_ret
    all_goals refine ⟨?_, HS.out⟩
    all_goals (rw [← HR.out]; unfold wrongI; rw [if_pos HE.out]; rfl)
  by_cases h3 : k = 3
  · subst h3
    have HF := Lib.hid (ref_First s hs)
    clear h5 hko
    cases hu : uok uq0 (sbytes s)
    all_goals rw [hu] at HF
    all_goals go_wp2_with (go_at_call 25; refine (HF.out _).mono ?_; rintro e w' ⟨rfl, rfl⟩)
    all_goals go_ret
    all_goals refine ⟨?_, HS.out⟩
    all_goals (rw [← HR.out]; simp_all [wrongI, formB, formK, rangB, It.k, It.n, It.s, It.l])
  by_cases h8 : k = 8
  · subst h8
    simp only [It.n] at hn0 hn1
    have hnn : ((n.toNat : Nat) : Int) = n := by omega
    have C := fun w => ref_NaN n.toNat (by omega) w
    rw [hnn] at C
    have HC := Lib.hid C
    clear h5 hko h3 C hnn
    cases hb : decide (FNan 11 52 n.toNat)
    all_goals rw [hb] at HC
    all_goals go_wp2_with (go_at_call 24; refine (HC.out _).mono ?_; rintro e w' ⟨rfl, rfl⟩)
    all_goals go_ret
    all_goals refine ⟨?_, HS.out⟩
    all_goals (rw [← HR.out]; simp_all [wrongI, formB, formK, rangB, theNaN, It.k, It.n, It.s, It.l])
  rcases (by omega : k = 0 ∨ k = 1 ∨ k = 2 ∨ k = 4 ∨ k = 6 ∨ k = 7) with rfl | rfl | rfl | rfl | rfl | rfl
  all_goals clear h5 hko h3 h8
  all_goals go_wp2_with fail
  all_goals go_ret
  all_goals refine ⟨?_, HS.out⟩
  all_goals (rw [← HR.out]; simp_all [wrongI, formB, formK, rangB, It.k, It.n, It.s, It.l])
  all_goals first | omega | (intro _; omega) | (apply decide_eq_false; omega)
end Go.Proofs.YtgcgidoikpbfpaaGreat
