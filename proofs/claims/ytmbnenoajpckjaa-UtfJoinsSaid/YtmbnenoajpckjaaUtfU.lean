
/- The document's answer for texts: First. -/
import Derived.Test.YtmbnenoajpckjaaUtfT
namespace Go.Proofs.Ytmbnenoajpckjaa
open Go.RowKit

theorem uS_at {s : ByteArray} (p : Nat) (hp : p < s.size) (h : (uS s p).wr = false) (h' : (uS s (p + 1)).wr = true) : uat uq0 (sbytes s) 0 = p ∧ uok uq0 (sbytes s) = false :=
  ⟨uat_some p (by rw [length_sbytes]; exact hp) h h', uok_wr (k := p + 1) (by rw [length_sbytes]; exact hp) h'⟩
theorem uS_end {s : ByteArray} (h : ∀ j, j ≤ s.size → (uS s j).wr = false) : uat uq0 (sbytes s) 0 = -1 ∧ uok uq0 (sbytes s) = ((uS s s.size).left == 0) := by
  refine ⟨uat_none (fun k hk => h k (by rwa [length_sbytes] at hk)), ?_⟩
  have e : urun uq0 (sbytes s) = uS s s.size := by unfold uS; rw [← length_sbytes, ust_all]
  unfold uok udone
  rw [e, h _ (Nat.le_refl _)]
  rfl
set_option maxHeartbeats 1000000 in
theorem ref_First (s : ByteArray) (hs : s.size ≤ 1000000000) (w : World) :
    Calls Try.prog 6 #[.string s] w fun e w' => e = .returned (.tuple #[.int .i64 (uat uq0 (sbytes s) 0), .bool (uok uq0 (sbytes s))]) ∧ w = w' := by
  go_enter Try.func6, Try.ntmps6
  go_wp2_with fail
  go_loop [4] (fun x => ∃ p : Nat, p ≤ s.size ∧ x = .int .i64 p ∧ (uS s p).left = 0 ∧ ∀ j, j ≤ p → (uS s j).wr = false) (fun x => s.size - (intOf x).toNat)
  case atStart => exact ⟨0, by omega, rfl, rfl, fun j hj => by rw [show j = 0 by omega]; rfl⟩
  case round =>
    obtain ⟨p, hp, rfl, hl, hw⟩ := hrel
    by_cases hlt : p < s.size
    · have HS := Lib.hid (ref_sign s hs p hlt hl (hw p (Nat.le_refl _)) w)
      have HW := Lib.hid hw
      clear hw hl
      go_wp2_with fail
      refine HS.out.mono ?_
      rintro e w' ⟨n, k, rfl, ht, rfl⟩
      clear HS
      rcases ht with ⟨rfl, rfl, hx⟩ | ⟨h1, h4, hkn, hin, hno, heq, hne⟩
      · obtain ⟨ea, eo⟩ := uS_at p hlt (HW.out p (Nat.le_refl _)) hx
        have EX := Lib.hid (And.intro ea eo)
        clear ea eo hx
        go_wp2_with fail
        go_ret2
        exact ⟨by rw [EX.out.1, EX.out.2]; rfl, rfl⟩
      · have hn0 : ((n : Int) == 0) = false := by rw [beq_eq_false_iff_ne]; omega
        have hall : ∀ j, j ≤ p + k → (uS s j).wr = false := fun j hj => by
          rcases Nat.lt_or_ge j p with h | h
          · exact HW.out j (by omega)
          · rw [show j = p + (j - p) by omega]; exact hno _ (by omega)
        have HA := Lib.hid hall
        clear hno HW hall
        by_cases hk : k < n
        · obtain ⟨h5, h6⟩ := hne hk
          by_cases hq : p + k < s.size
          · have h7 := h6 hq
            obtain ⟨ea, eo⟩ := uS_at (p + k) hq (HA.out _ (Nat.le_refl _)) h7
            rw [show ((p + k : Nat) : Int) = (p : Int) + k by simp] at ea
            have EX := Lib.hid (And.intro ea eo)
            clear ea eo h7 h5 h6 heq hne HA
            have hq' : (p : Int) + k < (s.size : Int) := by omega
            go_wp2_with fail
            go_ret2
            exact ⟨by rw [EX.out.1, EX.out.2]; rfl, rfl⟩
          · have hpk : p + k = s.size := by omega
            obtain ⟨ea, eo⟩ := uS_end (s := s) (fun j hj => HA.out j (by omega))
            rw [← hpk, show ((uS s (p + k)).left == 0) = false by simpa using h5] at eo
            have EX := Lib.hid (And.intro ea eo)
            clear ea eo h5 h6 heq hne HA
            have hq' : ¬ (p : Int) + k < (s.size : Int) := by omega
            go_wp2_with fail
            go_ret2
            exact ⟨by rw [EX.out.1, EX.out.2]; rfl, rfl⟩
        · have hkn' : k = n := by omega
          subst hkn'
          have HL := Lib.hid (heq rfl)
          clear heq hne
          go_wp2_with fail
          go_round
          case rel => exact ⟨p + k, hin, by go_num, HL.out, HA.out⟩
          case measure => simp [intOf]; omega
    · have hps : p = s.size := by omega
      subst hps
      obtain ⟨ea, eo⟩ := uS_end hw
      rw [hl] at eo
      have EX := Lib.hid (And.intro ea eo)
      clear ea eo hw hl
      go_wp2_with fail
      go_ret2
      exact ⟨by rw [EX.out.1, EX.out.2]; rfl, rfl⟩
end Go.Proofs.Ytmbnenoajpckjaa
