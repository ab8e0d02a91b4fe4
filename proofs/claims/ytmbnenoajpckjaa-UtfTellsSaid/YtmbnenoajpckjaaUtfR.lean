
/- The document's answer for texts: sign by sign. -/
import Derived.Test.YtmbnenoajpckjaaRows
import Derived.Test.YtmbnenoajpckjaaUtfP
import Derived.RegionTactic
namespace Go.Proofs.Ytmbnenoajpckjaa
open Go.RowKit

/-- Is a place's byte one that follows? -/
def isF (s : ByteArray) (k : Nat) : Prop := k < s.size ∧ 128 ≤ sb s k ∧ sb s k ≤ 191
instance (s : ByteArray) (k : Nat) : Decidable (isF s k) := by unfold isF; exact inferInstance
/-- How many follow, of n, from a place on. -/
def ufol (s : ByteArray) (i : Nat) : Nat → Nat
  | 0 => 0
  | n + 1 => if isF s i then 1 + ufol s (i + 1) n else 0
theorem ufol_le (s : ByteArray) : ∀ (n i : Nat), ufol s i n ≤ n
  | 0, _ => Nat.le_refl _
  | n + 1, i => by
    unfold ufol
    split
    · have := ufol_le s n (i + 1); omega
    · omega
theorem ufol_at {s : ByteArray} : ∀ {k n i : Nat}, k ≤ n → (∀ j, j < k → isF s (i + j)) → (k = n ∨ ¬ isF s (i + k)) → ufol s i n = k
  | 0, 0, i, _, _, _ => rfl
  | 0, n + 1, i, _, _, h => by
    unfold ufol
    rw [if_neg (by
      rcases h with h | h
      · omega
      · exact h)]
  | k + 1, 0, _, h, _, _ => by omega
  | k + 1, n + 1, i, h, h1, h2 => by
    unfold ufol
    rw [if_pos (show isF s i from h1 0 (by omega)), ufol_at (k := k) (by omega) (fun j hj => by rw [show i + 1 + j = i + (j + 1) by omega]; exact h1 (j + 1) (by omega)) (by
      rcases h2 with h2 | h2
      · left; omega
      · right; rw [show i + 1 + k = i + (k + 1) by omega]; exact h2)]
    omega

theorem ref_follow (s : ByteArray) (hs : s.size ≤ 1000000000) (i n : Nat) (hi : i ≤ 1000000010) (hn : n ≤ 4) (w : World) :
    Calls Try.prog 16 #[.string s, .int .i64 i, .int .i64 n] w fun e w' => e = .returned (.int .i64 (ufol s i n)) ∧ w = w' := by
  have HI := fun (w : World) (k : Nat) (hk : k < s.size) (x : Int) (hx : x = k) => run_sb (P := Try.prog) Try.underlying9 w s k hk x hx
  go_enter Try.func16, Try.ntmps16
  go_wp2_with fail
  go_loop [7] (fun k => ∃ m : Nat, m ≤ n ∧ k = .int .i64 m ∧ ∀ j, j < m → isF s (i + j)) (fun k => n - (intOf k).toNat)
  case atStart => exact ⟨0, by omega, rfl, fun j hj => by omega⟩
  case round =>
    obtain ⟨m, hm, rfl, hf⟩ := hrel
    have HF := Lib.hid hf
    clear hf
    by_cases h1 : m < n
    · by_cases h2 : i + m < s.size
      · have hi' := HI w (i + m) h2 ((i : Int) + m) (by simp)
        clear HI
        by_cases h3 : 128 ≤ sb s (i + m)
        · by_cases h4 : sb s (i + m) ≤ 191
          · go_wp2_with fail
            go_round
            case rel => exact ⟨m + 1, by omega, by go_num, fun j hj => (by
              by_cases hjm : j < m
              · exact HF.out j hjm
              · rw [show j = m by omega]; exact ⟨h2, h3, h4⟩)⟩
            case measure => simp [intOf]; omega
          · have e := Lib.hid (ufol_at (s := s) (i := i) hm HF.out (Or.inr (fun hx => h4 hx.2.2)))
            go_wp2_with fail
            go_ret
            exact ⟨by rw [e.out]; rfl, rfl⟩
        · have e := Lib.hid (ufol_at (s := s) (i := i) hm HF.out (Or.inr (fun hx => h3 hx.2.1)))
          go_wp2_with fail
          go_ret
          exact ⟨by rw [e.out]; rfl, rfl⟩
      · have e := Lib.hid (ufol_at (s := s) (i := i) hm HF.out (Or.inr (fun hx => h2 hx.1)))
        have h2' : ¬ ((i : Int) + m < s.size) := by omega
        clear HI
        go_wp2_with fail
        go_ret
        exact ⟨by rw [e.out]; rfl, rfl⟩
    · have e := Lib.hid (ufol_at (s := s) (i := i) hm HF.out (Or.inl (by omega)))
      clear HI
      go_wp2_with fail
      go_ret
      exact ⟨by rw [e.out]; rfl, rfl⟩
end Go.Proofs.Ytmbnenoajpckjaa
