/- The document's answer for texts: what a sign tells of the states. -/
import Derived.Test.YtchhbcmkhbfpoaaKAZ
import Derived.Test.YtchhbcmkhbfpoaaKAH
import Derived.Test.YtchhbcmkhbfpoaaKAK
import Derived.Laws.BytesArg
import Derived.Lib.ItoaNum
import Derived.Lib.Bytealg
import Derived.Test.YtchhbcmkhbfpoaaKAY
import Derived.Test.YtchhbcmkhbfpoaaKAV
import Derived.OwnWalk
import Derived.Deep.RegionLaw
namespace Go.Proofs.Ytchhbcmkhbfpoaa
open Go.RowKit
set_option maxRecDepth 100000

theorem ufol_spec (s : ByteArray) : ∀ (n i : Nat), (∀ j, j < ufol s i n → isF s (i + j)) ∧ (ufol s i n < n → ¬ isF s (i + ufol s i n))
  | 0, i => ⟨fun j hj => by simp [ufol] at hj, fun h => by simp [ufol] at h⟩
  | n + 1, i => by
    obtain ⟨h1, h2⟩ := ufol_spec s n (i + 1)
    by_cases hf : isF s i
    · have e : ufol s i (n + 1) = 1 + ufol s (i + 1) n := by
        show (if isF s i then 1 + ufol s (i + 1) n else 0) = _
        rw [if_pos hf]
      rw [e]
      refine ⟨fun j hj => ?_, fun h => ?_⟩
      · cases j with
        | zero => exact hf
        | succ j => rw [show i + (j + 1) = i + 1 + j by omega]; exact h1 j (by omega)
      · rw [show i + (1 + ufol s (i + 1) n) = i + 1 + ufol s (i + 1) n by omega]
        exact h2 (by omega)
    · have e : ufol s i (n + 1) = 0 := by
        show (if isF s i then 1 + ufol s (i + 1) n else 0) = _
        rw [if_neg hf]
      rw [e]
      exact ⟨fun j hj => by omega, fun _ => hf⟩
/-- The state after p bytes of a text. -/
def uS (s : ByteArray) (p : Nat) : UQ := ust uq0 (sbytes s) p
theorem uS_succ (s : ByteArray) (p : Nat) (h : p < s.size) : uS s (p + 1) = ustep (uS s p) (sb s p) := ust_succ _ _ _ (by rw [length_sbytes]; exact h)
theorem ustep_none {q : UQ} {c : Int} (h : q.left = 0) (hw : q.wr = false) (hm : umore c = none) : (ustep q c).wr = true := by
  unfold ustep; rw [if_neg (by simp [hw]), if_pos h, hm]
theorem ustep_some {q : UQ} {c : Int} {n : Nat} (h : q.left = 0) (hw : q.wr = false) (hm : umore c = some n) : ustep q c = ⟨n, ulo c, uhi c, false⟩ := by
  unfold ustep; rw [if_neg (by simp [hw]), if_pos h, hm]
theorem ustep_bad {n : Nat} {lo hi c : Int} (h : c < lo ∨ hi < c) : (ustep ⟨n + 1, lo, hi, false⟩ c).wr = true := by
  unfold ustep; rw [if_neg (by simp), if_neg (by simp), if_pos h]
theorem ustep_good {n : Nat} {lo hi c : Int} (h : lo ≤ c) (h' : c ≤ hi) : ustep ⟨n + 1, lo, hi, false⟩ c = ⟨n, 128, 191, false⟩ := by
  unfold ustep; rw [if_neg (by simp), if_neg (by simp), if_neg (by show ¬ (c < lo ∨ hi < c); omega)]; rfl
/-- What n and k tell of the sign at place p. -/
def Tells (s : ByteArray) (p n k : Nat) : Prop :=
  (n = 0 ∧ k = 0 ∧ (uS s (p + 1)).wr = true) ∨
  (1 ≤ n ∧ n ≤ 4 ∧ k ≤ n ∧ p + k ≤ s.size ∧ (∀ j, j ≤ k → (uS s (p + j)).wr = false) ∧ (k = n → (uS s (p + k)).left = 0) ∧ (k < n → (uS s (p + k)).left ≠ 0 ∧ (p + k < s.size → (uS s (p + k + 1)).wr = true)))
theorem follows {s : ByteArray} {i m : Nat} (h0 : uS s i = ⟨m, 128, 191, false⟩) : ∀ u, u ≤ m → (∀ j, j < u → isF s (i + j)) → uS s (i + u) = ⟨m - u, 128, 191, false⟩
  | 0, _, _ => h0
  | u + 1, hu, hf => by
    have ih := follows h0 u (by omega) (fun j hj => hf j (by omega))
    obtain ⟨g1, g2, g3⟩ := hf u (by omega)
    rw [show i + (u + 1) = i + u + 1 by omega, uS_succ s _ g1, ih, show m - u = m - (u + 1) + 1 by omega, ustep_good g2 g3]
theorem ref_sign (s : ByteArray) (hs : s.size ≤ 1000000000) (p : Nat) (h0 : p < s.size) (hl : (uS s p).left = 0) (hw : (uS s p).wr = false) (w : World) :
    Calls Try.prog 57 #[.string s, .int .i64 p] w fun e w' => ∃ n k : Nat, e = .returned (.tuple #[.int .i64 n, .int .i64 k]) ∧ Tells s p n k ∧ w = w' := by
  have e1 := uS_succ s p h0
  cases hm : umore (sb s p) with
  | none =>
    refine (ref_sign_none s p h0 hm w).mono ?_
    rintro e w' ⟨rfl, rfl⟩
    exact ⟨0, 0, rfl, Or.inl ⟨rfl, rfl, by rw [e1]; exact ustep_none hl hw hm⟩, rfl⟩
  | some m =>
    rw [ustep_some hl hw hm] at e1
    cases m with
    | zero =>
      refine (ref_sign_one s p h0 hm w).mono ?_
      rintro e w' ⟨rfl, rfl⟩
      refine ⟨1, 1, rfl, Or.inr ⟨by omega, by omega, by omega, by omega, fun j hj => ?_, fun _ => by rw [e1], fun h => by omega⟩, rfl⟩
      rcases Nat.lt_or_ge j 1 with h | h
      · rw [show j = 0 by omega]; exact hw
      · rw [show j = 1 by omega, e1]
    | succ m =>
      have hL := lead_of hm
      have hm3 : m + 1 ≤ 3 := by have := umore_some hm; omega
      by_cases h1 : p + 1 < s.size
      · have e2 := uS_succ s (p + 1) h1
        rw [e1] at e2
        by_cases hb : sb s (p + 1) < ulo (sb s p) ∨ uhi (sb s p) < sb s (p + 1)
        · refine (ref_sign_bad s hs p (m + 2) _ _ hL h1 hb w).mono ?_
          rintro e w' ⟨rfl, rfl⟩
          refine ⟨m + 2, 1, rfl, Or.inr ⟨by omega, by omega, by omega, by omega, fun j hj => ?_, fun h => by omega, fun _ => ⟨by rw [e1]; exact Nat.succ_ne_zero _, fun _ => by rw [e2]; exact ustep_bad hb⟩⟩, rfl⟩
          rcases Nat.lt_or_ge j 1 with h | h
          · rw [show j = 0 by omega]; exact hw
          · rw [show j = 1 by omega, e1]
        · refine (ref_sign_good s hs p (m + 2) _ _ hL h1 (by omega) (by omega) w).mono ?_
          rintro e w' ⟨rfl, rfl⟩
          rw [ustep_good (by omega) (by omega)] at e2
          obtain ⟨f1, f2⟩ := ufol_spec s m (p + 2)
          have fle := ufol_le s m (p + 2)
          have hf := fun u hu => follows (s := s) (i := p + 2) (m := m) e2 u hu
          rw [show m + 2 - 2 = m by omega]
          have hin : p + (2 + ufol s (p + 2) m) ≤ s.size := by
            rcases Nat.eq_zero_or_pos (ufol s (p + 2) m) with h | h
            · omega
            · have := (f1 (ufol s (p + 2) m - 1) (by omega)).1
              omega
          generalize ufol s (p + 2) m = u at *
          have hu := hf u fle f1
          refine ⟨m + 2, 2 + u, rfl, Or.inr ⟨by omega, by omega, by omega, hin, fun j hj => ?_, fun h => ?_, fun h => ⟨?_, fun hlt => ?_⟩⟩, rfl⟩
          · rcases Nat.lt_or_ge j 1 with h | h
            · rw [show j = 0 by omega]; exact hw
            · rcases Nat.lt_or_ge j 2 with h' | h'
              · rw [show j = 1 by omega, e1]
              · rw [show p + j = p + 2 + (j - 2) by omega, hf (j - 2) (by omega) (fun i hi => f1 i (by omega))]
          · rw [show p + (2 + u) = p + 2 + u by omega, hu]
            show m - u = 0
            omega
          · rw [show p + (2 + u) = p + 2 + u by omega, hu]
            show m - u ≠ 0
            omega
          · rw [uS_succ s _ hlt, show p + (2 + u) = p + 2 + u by omega, hu, show m - u = m - u - 1 + 1 by omega]
            refine ustep_bad ?_
            have := f2 (by omega)
            unfold isF at this
            omega
      · refine (ref_sign_short s hs p (m + 2) _ _ hL h0 (by omega) w).mono ?_
        rintro e w' ⟨rfl, rfl⟩
        refine ⟨m + 2, 1, rfl, Or.inr ⟨by omega, by omega, by omega, by omega, fun j hj => ?_, fun h => by omega, fun _ => ⟨by rw [e1]; exact Nat.succ_ne_zero _, fun h => by omega⟩⟩, rfl⟩
        rcases Nat.lt_or_ge j 1 with h | h
        · rw [show j = 0 by omega]; exact hw
        · rw [show j = 1 by omega, e1]
end Go.Proofs.Ytchhbcmkhbfpoaa

/- The document's answer for texts: First. -/
namespace Go.Proofs.Ytchhbcmkhbfpoaa
open Go.RowKit
set_option maxRecDepth 100000

theorem uS_at {s : ByteArray} (p : Nat) (hp : p < s.size) (h : (uS s p).wr = false) (h' : (uS s (p + 1)).wr = true) : uat uq0 (sbytes s) 0 = p ∧ uok uq0 (sbytes s) = false :=
  ⟨uat_some p (by rw [length_sbytes]; exact hp) h h', uok_wr (k := p + 1) (by rw [length_sbytes]; exact hp) h'⟩
theorem uS_end {s : ByteArray} (h : ∀ j, j ≤ s.size → (uS s j).wr = false) : uat uq0 (sbytes s) 0 = -1 ∧ uok uq0 (sbytes s) = ((uS s s.size).left == 0) := by
  refine ⟨uat_none (fun k hk => h k (by rwa [length_sbytes] at hk)), ?_⟩
  have e : urun uq0 (sbytes s) = uS s s.size := by unfold uS; rw [← length_sbytes, ust_all]
  unfold uok udone
  rw [e, h _ (Nat.le_refl _)]
  rfl
set_option maxHeartbeats 1000000 in
theorem ref_First (s : ByteArray) (hs : s.size ≤ 1000000000) (w : World) :
    Calls Try.prog 46 #[.string s] w fun e w' => e = .returned (.tuple #[.int .i64 (uat uq0 (sbytes s) 0), .bool (uok uq0 (sbytes s))]) ∧ w = w' := by
  go_enter Try.func46, Try.ntmps46
  go_wp2_with fail
  go_loop [4] (fun x => ∃ p : Nat, p ≤ s.size ∧ x = .int .i64 p ∧ (uS s p).left = 0 ∧ ∀ j, j ≤ p → (uS s j).wr = false) (fun x => s.size - (intOf x).toNat)
  case atStart => exact ⟨0, by omega, rfl, rfl, fun j hj => by rw [show j = 0 by omega]; rfl⟩
  case round =>
    obtain ⟨p, hp, rfl, hl, hw⟩ := hrel
    by_cases hlt : p < s.size
    · have HS := Lib.hid (ref_sign s hs p hlt hl (hw p (Nat.le_refl _)) w)
      have HW := Lib.hid hw
      clear hw hl
      go_wp2_with fail
      refine HS.out.mono ?_
      rintro e w' ⟨n, k, rfl, ht, rfl⟩
      clear HS
      rcases ht with ⟨rfl, rfl, hx⟩ | ⟨h1, h4, hkn, hin, hno, heq, hne⟩
      · obtain ⟨ea, eo⟩ := uS_at p hlt (HW.out p (Nat.le_refl _)) hx
        have EX := Lib.hid (And.intro ea eo)
        clear ea eo hx
        go_wp2_with fail
        go_ret2
        exact ⟨by rw [EX.out.1, EX.out.2]; rfl, rfl⟩
      · have hn0 : ((n : Int) == 0) = false := by rw [beq_eq_false_iff_ne]; omega
        have hall : ∀ j, j ≤ p + k → (uS s j).wr = false := fun j hj => by
          rcases Nat.lt_or_ge j p with h | h
          · exact HW.out j (by omega)
          · rw [show j = p + (j - p) by omega]; exact hno _ (by omega)
        have HA := Lib.hid hall
        clear hno HW hall
        by_cases hk : k < n
        · obtain ⟨h5, h6⟩ := hne hk
          by_cases hq : p + k < s.size
          · have h7 := h6 hq
            obtain ⟨ea, eo⟩ := uS_at (p + k) hq (HA.out _ (Nat.le_refl _)) h7
            rw [show ((p + k : Nat) : Int) = (p : Int) + k by simp] at ea
            have EX := Lib.hid (And.intro ea eo)
            clear ea eo h7 h5 h6 heq hne HA
            have hq' : (p : Int) + k < (s.size : Int) := by omega
            go_wp2_with fail
            go_ret2
            exact ⟨by rw [EX.out.1, EX.out.2]; rfl, rfl⟩
          · have hpk : p + k = s.size := by omega
            obtain ⟨ea, eo⟩ := uS_end (s := s) (fun j hj => HA.out j (by omega))
            rw [← hpk, show ((uS s (p + k)).left == 0) = false by simpa using h5] at eo
            have EX := Lib.hid (And.intro ea eo)
            clear ea eo h5 h6 heq hne HA
            have hq' : ¬ (p : Int) + k < (s.size : Int) := by omega
            go_wp2_with fail
            go_ret2
            exact ⟨by rw [EX.out.1, EX.out.2]; rfl, rfl⟩
        · have hkn' : k = n := by omega
          subst hkn'
          have HL := Lib.hid (heq rfl)
          clear heq hne
          go_wp2_with fail
          go_round
          case rel => exact ⟨p + k, hin, by go_num, HL.out, HA.out⟩
          case measure => simp [intOf]; omega
    · have hps : p = s.size := by omega
      subst hps
      obtain ⟨ea, eo⟩ := uS_end hw
      rw [hl] at eo
      have EX := Lib.hid (And.intro ea eo)
      clear ea eo hw hl
      go_wp2_with fail
      go_ret2
      exact ⟨by rw [EX.out.1, EX.out.2]; rfl, rfl⟩
end Go.Proofs.Ytchhbcmkhbfpoaa

/- Bytes by digits: the plain functions. -/
namespace Go.Proofs.Ytchhbcmkhbfpoaa
open Go.RowKit

/-- The sign of half a byte. -/
def hexd (x : Int) : Int := if x < 10 then 48 + x else 87 + x
/-- Half a byte's value by its sign; -1: no such sign. -/
def hexv (c : Int) : Int := if 48 ≤ c ∧ c ≤ 57 then c - 48 else if 97 ≤ c ∧ c ≤ 102 then c - 87 else -1
def hexL : List Int → List Int
  | [] => []
  | z :: r => hexd (z / 16) :: hexd (z % 16) :: hexL r
theorem hexL_append (a b : List Int) : hexL (a ++ b) = hexL a ++ hexL b := by
  induction a with
  | nil => rfl
  | cons z r ih => simp [hexL, ih]
theorem length_hexL (zs : List Int) : (hexL zs).length = 2 * zs.length := by
  induction zs with
  | nil => rfl
  | cons z r ih => simp [hexL, ih]; omega
theorem hexL_take (zs : List Int) (k : Nat) (h : k < zs.length) : hexL (zs.take (k + 1)) = hexL (zs.take k) ++ [hexd (zs.getD k 0 / 16), hexd (zs.getD k 0 % 16)] := by
  rw [take_snoc zs k h, hexL_append]
  rfl
theorem hexd_range (x : Int) (h0 : 0 ≤ x) (h1 : x < 16) : 48 ≤ hexd x ∧ hexd x ≤ 102 := by
  unfold hexd
  split <;> omega
theorem byte_hexL {zs : List Int} (h : ByteL zs) : ByteL (hexL zs) := by
  induction zs with
  | nil => intro c hc; cases hc
  | cons z r ih =>
    intro c hc
    have hz := h z (by simp)
    have hr := ih (fun c hc => h c (by simp [hc]))
    simp only [hexL, List.mem_cons] at hc
    have h1 := hexd_range (z / 16) (by omega) (by omega)
    have h2 := hexd_range (z % 16) (by omega) (by omega)
    rcases hc with rfl | rfl | hc
    · omega
    · omega
    · exact hr c hc
theorem hexL_at (zs : List Int) : ∀ (i : Nat), i < zs.length → (hexL zs).getD (2 * i) 0 = hexd (zs.getD i 0 / 16) ∧ (hexL zs).getD (2 * i + 1) 0 = hexd (zs.getD i 0 % 16) := by
  induction zs with
  | nil => intro i hi; cases hi
  | cons z r ih =>
    intro i hi
    cases i with
    | zero => exact ⟨rfl, rfl⟩
    | succ i =>
      have := ih i (by simpa using hi)
      rw [show 2 * (i + 1) = 2 * i + 1 + 1 by omega]
      simpa [hexL, List.getD_cons_succ] using this
theorem hexv_hexd (x : Int) (h0 : 0 ≤ x) (h1 : x < 16) : hexv (hexd x) = x := by
  unfold hexv hexd
  split <;> split <;> (try split) <;> omega
theorem hexd_hexv (c : Int) (h : 0 ≤ hexv c) : hexd (hexv c) = c ∧ hexv c < 16 := by
  unfold hexv at *
  unfold hexd
  by_cases h1 : 48 ≤ c ∧ c ≤ 57
  · rw [if_pos h1]; exact ⟨by rw [if_pos (by omega)]; omega, by omega⟩
  · rw [if_neg h1] at h ⊢
    by_cases h2 : 97 ≤ c ∧ c ≤ 102
    · rw [if_pos h2] at h ⊢; exact ⟨by rw [if_neg (by omega)]; omega, by omega⟩
    · rw [if_neg h2] at h; omega

/-- The values of the first j pairs of signs. -/
def hexB (L : List Int) : Nat → List Int
  | 0 => []
  | j + 1 => hexB L j ++ [hexv (L.getD (2 * j) 0) * 16 + hexv (L.getD (2 * j + 1) 0)]
/-- Are the first j pairs digits? -/
def hexG (L : List Int) (j : Nat) : Prop := ∀ i, i < j → 0 ≤ hexv (L.getD (2 * i) 0) ∧ 0 ≤ hexv (L.getD (2 * i + 1) 0)
def hexOk (L : List Int) : Bool := decide (L.length % 2 = 0) && (List.range (L.length / 2)).all fun i => decide (0 ≤ hexv (L.getD (2 * i) 0)) && decide (0 ≤ hexv (L.getD (2 * i + 1) 0))
def hexT (L : List Int) : List Int := if hexOk L = true then hexB L (L.length / 2) else []
theorem hexOk_iff (L : List Int) : hexOk L = true ↔ L.length % 2 = 0 ∧ hexG L (L.length / 2) := by
  simp only [hexOk, hexG, Bool.and_eq_true, decide_eq_true_eq, List.all_eq_true, List.mem_range]
theorem hexOk_odd {L : List Int} (h : L.length % 2 ≠ 0) : hexOk L = false := by
  cases e : hexOk L with
  | false => rfl
  | true => exact absurd ((hexOk_iff L).1 e).1 h
theorem hexOk_bad {L : List Int} {i : Nat} (hi : 2 * i + 1 < L.length) (h : hexv (L.getD (2 * i) 0) < 0 ∨ hexv (L.getD (2 * i + 1) 0) < 0) : hexOk L = false := by
  cases e : hexOk L with
  | false => rfl
  | true =>
    have := ((hexOk_iff L).1 e).2 i (by omega)
    omega
theorem hexT_bad {L : List Int} (h : hexOk L = false) : hexT L = [] := by unfold hexT; rw [if_neg (by rw [h]; exact Bool.false_ne_true)]
theorem hexT_good {L : List Int} (h : hexOk L = true) : hexT L = hexB L (L.length / 2) := by unfold hexT; rw [if_pos h]
theorem hexG_succ {L : List Int} {j : Nat} (h : hexG L j) (h1 : 0 ≤ hexv (L.getD (2 * j) 0)) (h2 : 0 ≤ hexv (L.getD (2 * j + 1) 0)) : hexG L (j + 1) := fun i hi => by
  by_cases e : i < j
  · exact h i e
  · rw [show i = j by omega]; exact ⟨h1, h2⟩
theorem length_hexB (L : List Int) (j : Nat) : (hexB L j).length = j := by
  induction j with
  | zero => rfl
  | succ j ih => simp [hexB, ih]
theorem byte_hexB {L : List Int} : ∀ {j : Nat}, hexG L j → ByteL (hexB L j)
  | 0, _ => fun c hc => by cases hc
  | j + 1, h => fun c hc => by
    rcases List.mem_append.1 hc with hc | hc
    · exact byte_hexB (fun i hi => h i (by omega)) c hc
    · have h1 := h j (by omega)
      have h2 := hexd_hexv _ h1.1
      have h3 := hexd_hexv _ h1.2
      rw [List.mem_singleton] at hc
      omega
theorem byte_hexT (L : List Int) : ByteL (hexT L) := by
  cases e : hexOk L with
  | false => rw [hexT_bad e]; intro c hc; cases hc
  | true => rw [hexT_good e]; exact byte_hexB ((hexOk_iff L).1 e).2
theorem length_hexT (L : List Int) : (hexT L).length ≤ L.length := by
  cases e : hexOk L with
  | false => rw [hexT_bad e]; simp
  | true => rw [hexT_good e, length_hexB]; omega
/-- The digits of what was taken are the text. -/
theorem hexL_hexB {L : List Int} : ∀ {j : Nat}, 2 * j ≤ L.length → hexG L j → hexL (hexB L j) = L.take (2 * j)
  | 0, _, _ => rfl
  | j + 1, hj, h => by
    have h1 := h j (by omega)
    have h2 := hexd_hexv _ h1.1
    have h3 := hexd_hexv _ h1.2
    rw [hexB, hexL_append, hexL_hexB (by omega) (fun i hi => h i (by omega)), show 2 * (j + 1) = 2 * j + 1 + 1 by omega, take_snoc L (2 * j + 1) (by omega), take_snoc L (2 * j) (by omega)]
    generalize hexv (L.getD (2 * j) 0) = a at *
    generalize hexv (L.getD (2 * j + 1) 0) = b at *
    show _ ++ [hexd ((a * 16 + b) / 16), hexd ((a * 16 + b) % 16)] = _
    rw [show (a * 16 + b) / 16 = a by omega, show (a * 16 + b) % 16 = b by omega, h2.1, h3.1, List.append_assoc]
    rfl
theorem hexL_hexT {L : List Int} (h : hexOk L = true) : hexL (hexT L) = L := by
  have h1 := (hexOk_iff L).1 h
  rw [hexT_good h, hexL_hexB (by omega) h1.2, show 2 * (L.length / 2) = L.length by omega, List.take_length]
/-- What was put is taken again. -/
theorem hexG_hexL {zs : List Int} (h : ByteL zs) : hexG (hexL zs) zs.length := fun i hi => by
  have h1 := hexL_at zs i hi
  have h2 := h.get i
  rw [h1.1, h1.2, hexv_hexd _ (by omega) (by omega), hexv_hexd _ (by omega) (by omega)]
  omega
theorem hexB_hexL {zs : List Int} (h : ByteL zs) : ∀ (j : Nat), j ≤ zs.length → hexB (hexL zs) j = zs.take j
  | 0, _ => rfl
  | j + 1, hj => by
    have h1 := hexL_at zs j (by omega)
    have h2 := h.get j
    rw [hexB, hexB_hexL h j (by omega), h1.1, h1.2, hexv_hexd _ (by omega) (by omega), hexv_hexd _ (by omega) (by omega), take_snoc zs j (by omega), show zs.getD j 0 / 16 * 16 + zs.getD j 0 % 16 = zs.getD j 0 by omega]
theorem hexOk_hexL {zs : List Int} (h : ByteL zs) : hexOk (hexL zs) = true := by
  rw [hexOk_iff, length_hexL]
  exact ⟨by omega, by rw [show 2 * zs.length / 2 = zs.length by omega]; exact hexG_hexL h⟩
theorem hexT_hexL {zs : List Int} (h : ByteL zs) : hexT (hexL zs) = zs := by
  rw [hexT_good (hexOk_hexL h), length_hexL, show 2 * zs.length / 2 = zs.length by omega, hexB_hexL h _ (Nat.le_refl _), List.take_length]

/-- A number's decimal digits. -/
def decL (n : Nat) : List Int := (Lib.decDigits n).map fun b => (b.toNat : Int)
/-- The digits, or those of the first ones. -/
def showL (zs : List Int) (most : Int) : List Int := if (zs.length : Int) ≤ most then hexL zs else hexL (zs.take most.toNat) ++ [46, 46] ++ decL zs.length

theorem str_append (a b : List Int) : strOfNums a ++ strOfNums b = strOfNums (a ++ b) := by
  apply ByteArray.ext
  simp [strOfNums]
theorem str_sbytes (s : ByteArray) : strOfNums (sbytes s) = s := by
  apply ByteArray.ext
  simp [strOfNums, sbytes, Function.comp_def]
theorem sbytes_str {zs : List Int} (h : ByteL zs) : sbytes (strOfNums zs) = zs := by
  unfold sbytes
  rw [strOfNums_data, List.map_map]
  conv => rhs; rw [← List.map_id zs]
  apply List.map_congr_left
  intro c hc
  have := h c hc
  simp only [Function.comp, UInt8.toNat_ofNat', id]
  omega
theorem byte_sbytes (s : ByteArray) : ByteL (sbytes s) := fun c hc => by
  unfold sbytes at hc
  rw [List.mem_map] at hc
  obtain ⟨b, _, rfl⟩ := hc
  have := b.toNat_lt
  omega
theorem str_dec (n : Nat) : (⟨(Lib.decDigits n).toArray⟩ : ByteArray) = strOfNums (decL n) := by
  apply ByteArray.ext
  simp [strOfNums, decL, Function.comp_def]

/-- The signs of halves, as the programs have them. -/
def hexDigits : ByteArray := ⟨#[48, 49, 50, 51, 52, 53, 54, 55, 56, 57, 97, 98, 99, 100, 101, 102]⟩
theorem hexDigits_at : ∀ k : Fin 16, sb hexDigits k.val = hexd k.val := by decide +kernel
theorem hexDigits_cut : ∀ k : Fin 16, (hexDigits.extract k.val (k.val + 1)).data.toList = (strOfNums [hexd k.val]).data.toList := by decide +kernel
theorem hexDigits_find : ∀ k : Fin 256, Lib.indexByte hexDigits.data.toList (k.val : Int).toNat.toUInt8 = hexv k.val := by decide +kernel
theorem hex_cut (k : Nat) (h : k < 16) : hexDigits.extract k (k + 1) = strOfNums [hexd k] := by
  have := hexDigits_cut ⟨k, h⟩
  apply ByteArray.ext
  exact Array.toList_inj.1 this
theorem hex_find (c : Int) (h0 : 0 ≤ c) (h1 : c < 256) : Lib.indexByte hexDigits.data.toList c.toNat.toUInt8 = hexv c := by
  have := hexDigits_find ⟨c.toNat, by omega⟩
  rw [show ((c.toNat : Nat) : Int) = c by omega] at this
  exact this
/-- Two texts, one behind the other. -/
theorem run_sadd {P : Program} (a b : List Int) (h : a.length + b.length ≤ 9223372036854775807) (w : World) : (Op.stringOp .add (strOfNums a) (strOfNums b)).run P w = .ok (.string (strOfNums (a ++ b))) w := by
  rw [run_string_add_sum _ _ _ (by rw [strOfNums_size, strOfNums_size]; exact h), str_append]
end Go.Proofs.Ytchhbcmkhbfpoaa

/- The document's scan (layer 14): a text of signs. -/
namespace Go.Proofs.Ytchhbcmkhbfpoaa
open Go.RowKit

set_option maxRecDepth 100000 in
set_option maxHeartbeats 4000000 in
theorem inner_text (B g : Nat) (A : Option Addr) (cap : Nat) (L : List Int) (D K : Nat) (s : Int) (a dp : Nat) (w : World) (N : List Note) (E : List AEv) (h : Sn w B g A cap L D K s N E) (hB : B ≤ w.heap.size) (hb : ByteL L) (hl : L.length ≤ 300) (ha : a < L.length) (hd : dp ≤ 1000) (hn : N.length ≤ 900000) (he : E.length ≤ 900000) (hcp : L.length ≤ cap) (n : Nat) (hc : (hread (L.drop a)).e ≠ 9 ∧ (hread (L.drop a)).many ≠ 0) (hm : (hread (L.drop a)).major = 3) (hq : (hread (L.drop a)).arg = (n : Int)) (hbn : a + (hread (L.drop a)).many.toNat + n ≤ L.length) :
    InnAt B g A cap L D K s a dp w N E ⟨hnn (hread (L.drop a)) a ++ unotes true uq0 (slice L (a + (hread (L.drop a)).many.toNat) (a + (hread (L.drop a)).many.toNat + n)) (a + (hread (L.drop a)).many.toNat), ⟨1, (hread (L.drop a)).major, (hread (L.drop a)).width, (hread (L.drop a)).arg, 0, dp, a + (hread (L.drop a)).many.toNat - 1⟩ :: bevs dp (slice L (a + (hread (L.drop a)).many.toNat) (a + (hread (L.drop a)).many.toNat + n)) (a + (hread (L.drop a)).many.toNat), a + (hread (L.drop a)).many.toNat + n, true⟩ := by
  obtain ⟨ab, ao, hA, -, -⟩ := (show Rd w B .u8 A L from let ⟨_, _, _, h⟩ := h; h.rd).get ha
  subst hA
  obtain ⟨c0, c1, c2, c3⟩ := h.cells
  have HH := Lib.hid h
  have HB := Lib.hid hB
  have i1 : (a : Int) < L.length := by omega
  have i2 : (dp : Int) ≤ 1000 := by omega
  have i3 : (L.length : Int) ≤ 300 := by omega
  have i4 : (0 : Int) ≤ dp := by omega
  have i5 : (0 : Int) ≤ a := by omega
  have HRD := Lib.hid (ref_head h hB hb hl a (by omega))
  have hmn := hread_many (L.drop a)
  rw [List.length_drop] at hmn
  have hpl : (hread (L.drop a)).e ≠ 0 → (if (hread (L.drop a)).place < 0 then -1 else (hread (L.drop a)).place + (a : Int)) = ((a + (hread (L.drop a)).place.toNat : Nat) : Int) := fun h0 => by
    have := hread_placed h0
    rw [if_neg (by omega)]
    omega
  have hmj := hread_major (L.drop a) (fun c hc => hb c (List.mem_of_mem_drop hc))
  have hag := hread_arg (L.drop a)
  unfold hreadV at HRD
  generalize hread (L.drop a) = r at *
  obtain ⟨m, W, q, z, p, er⟩ := r
  dsimp only at HRD hmn hpl hmj hag hc hm hq hbn ⊢
  generalize (if p < 0 then -1 else p + (a : Int)) = pl at *
  have i6 : (a : Int) + z ≤ L.length := by omega
  have i7 : (0 : Int) ≤ z := hmn.1
  have hlN : N.length ≤ 1000000000 := by omega
  have HN := Lib.hid hlN
  have HBY := Lib.hid (fun _ : Unit => And.intro hb hcp)
  have HN9 := Lib.hid (fun _ : Unit => hn)
  clear h hB hb hl ha hd hmn hlN hn hcp
  obtain ⟨hc1, hc2⟩ := hc
  have hnn0 : er = 0 → hnn ⟨m, W, q, z, p, er⟩ a = [] := fun h => if_pos h
  have hnn1 : er ≠ 0 → hnn ⟨m, W, q, z, p, er⟩ a = [(a + p.toNat, er)] := fun h => if_neg h
  have hln : (hnn ⟨m, W, q, z, p, er⟩ a).length ≤ 1 := by unfold hnn; split <;> simp
  generalize hnn ⟨m, W, q, z, p, er⟩ a = nn at *
  generalize a + p.toNat = pn at *
  have hab : (a : Int) + z = ((a + z.toNat : Nat) : Int) := by omega
  have hb1' : ((a + z.toNat - 1 : Nat) : Int) = ((a + z.toNat : Nat) : Int) - 1 := by omega
  have i8 : (a : Int) < ((a + z.toNat : Nat) : Int) := by omega
  have i9 : ((a + z.toNat : Nat) : Int) ≤ L.length := by omega
  have hz : z ≠ 0 := hc2
  have HB1' := Lib.hid hb1'
  have HLN := Lib.hid (fun _ : Unit => And.intro hln (And.intro HN.out he))
  have HNN := Lib.hid (And.intro hnn0 (And.intro hnn1 hpl))
  generalize a + z.toNat - 1 = b1 at *
  generalize a + z.toNat = b at *
  have h9 : (er == 9) = false := by simp [hc1]
  clear hb1' hln hnn0 hnn1 hpl he hc2
  subst hm
  unfold InnAt ScP
  dsimp only
  subst hq
  have hbi : (b : Int) + n ≤ L.length := by omega
  have hle : (n : Int) ≤ (L.length : Int) - b := by omega
  have HBN := Lib.hid (fun _ : Unit => hbn)
  have hn3 : (n : Int) ≤ 300 := by omega
  have hwn : IntKind.u64.wrap (n : Int) = n := IntWalk.u64_in _ (by omega)
  clear hbn hmj
  go_enter Try.func35, Try.ntmps35
  go_wp2_with fail
  refine HRD.out.mono ?_
  rintro e1 w1 ⟨rfl, hb1⟩
  have HS1 := Lib.hid (HH.out.on hb1 HB.out)
  have HB1 := Lib.hid (Nat.le_trans HB.out hb1.size)
  have HW1 := Lib.hid (hb1.mono HB.out)
  have HBW := Lib.hid HB.out
  clear hb1 HRD HB HH c0 c1 c2 c3
  go_upto_if 51 with fail
  refine wp_cut_mask kInn (fun _ W => Sn W B g (some ⟨ab, ao, none⟩) cap L D K s (N ++ nn) E ∧ Below B w W) ?_ ?_
  · intro K' HK'
    by_cases her : er = 0
    · have e3 := HNN.out.1 her
      subst her
      subst e3
      clear HNN
      go_wp2_with fail
      refine HK'.out _ _ rfl ⟨?_, HW1.out⟩
      rw [List.append_nil]
      exact HS1.out
    · have hpl := HNN.out.2.2 her
      have e3 := HNN.out.2.1 her
      subst hpl
      subst e3
      clear HNN
      go_wp2_with fail
      refine (ref_note w1 B g (some ⟨ab, ao, none⟩) cap L D K s N E pn er HS1.out HB1.out HN.out).mono ?_
      rintro e2 w2 ⟨rfl, hs2, hw2⟩
      have HS2 := Lib.hid hs2
      have HW2 := Lib.hid (HW1.out.trans hw2)
      clear hs2 hw2 HS1 HW1
      go_wp2_with fail
      exact HK'.out _ _ rfl ⟨HS2.out, HW2.out⟩
  intro t w3 hR
  obtain ⟨hs3, hw3⟩ := hR
  dsimp only [mask, kInn, Nat.reduceAdd]
  have hB3 := Nat.le_trans HBW.out hw3.size
  obtain ⟨v0, v1, v2, v3⟩ := hs3.cells
  obtain ⟨vA, vE, vV, hV⟩ := hs3
  have u6 : w3.cell? ⟨g, 6, none⟩ = some vV := hV.cells.2.2.2.2.2.2.1
  obtain ⟨A', n', c', w4, hr, h6, h7, hs4, hw4⟩ := ev_add hV hB3 (by have := HLN.out (); omega) ⟨1, 3, W, (n : Int), 0, dp, b1⟩
  have e2 : (AEv.cells ⟨1, 3, W, (n : Int), 0, dp, b1⟩).toArray = #[.int .i64 1, .int .i64 3, .int .i64 W, .int .i64 (dp : Int), .int .i64 ((b : Int) - 1), .int .u64 (n : Int), .int .u8 0] := by simp [AEv.cells, HB1'.out]
  rw [e2] at hr
  clear e2
  have HR := Lib.hid hr
  have HS4 := Lib.hid hs4
  have HW4 := Lib.hid (hw3.trans hw4)
  clear hr hs4 hw4 hV hw3 hB3 HS1 HW1 HB1 HNN
  have HZ := ev_zero
  unfold ev0 at HZ
  go_upto_region 15 with ((with_reducible refine is_append 44 rfl ?_); (with_reducible refine wpList_append_run rfl rfl HR.out ?_ ?_ ?_); (· rfl); (· rfl))
  generalize w4.setCell ⟨g, 6, none⟩ (.slice A' n' c') = w5 at *
  clear HR h6 h7 HZ v0 v1 v2 v3 u6
  obtain ⟨c0, -, -, -⟩ := HS4.out.cells
  go_wp2_with fail
  have hE0 := HLN.out ()
  have HSN := Lib.hid (fun _ : Unit => (hE0.2.2 : E.length ≤ 900000))
  clear hE0
  refine wp_loop_mask kText (fun m t W' => ∃ i : Nat, m + i = b + n ∧ t 16 = .int .i64 (i : Int) ∧ TextI w W' B g (some ⟨ab, ao, none⟩) cap L D K s (N ++ nn) (E ++ [⟨1, 3, W, (n : Int), 0, dp, b1⟩]) dp b i) n ⟨b, Nat.add_comm _ _, rfl, Nat.le_refl _, by rw [slice_nil]; show Sn _ _ _ _ _ _ _ _ _ _ (_ ++ []); rw [List.append_nil]; exact HS4.out, Nat.le_trans HBW.out HW4.out.size, HW4.out⟩ ?_
  intro m t6 wr hrel K6 HK6
  dsimp only [mask, kText, Nat.reduceAdd]
  obtain ⟨i, hmi, e16, hT⟩ := hrel
  rw [e16]
  clear e16 HS4 HW4
  cases m with
  | zero =>
    obtain rfl : i = b + n := by omega
    have hlt : ¬ ((b + n : Nat) : Int) < (b : Int) + n := by omega
    have hbn2 := HBN.out ()
    obtain ⟨hby, hcp⟩ := HBY.out ()
    obtain ⟨vA', vE', vV', hV⟩ := hT.sn
    obtain ⟨hp1, hp2⟩ := run_part hV.rd cap b (b + n) hcp (Nat.le_add_right _ _) (by omega)
    obtain ⟨k0, -⟩ := hV.cells
    have HSS := Lib.hid hT.sn
    have HBB := Lib.hid hT.hb
    have HBE := Lib.hid hT.bel
    have hbys : ByteL (slice L b (b + n)) := fun c hc => hby c (List.mem_of_mem_drop (List.mem_of_mem_take hc))
    have hsl : (slice L b (b + n)).length = n := by rw [length_slice (by omega)]; omega
    have hss : (strOfNums (slice L b (b + n))).size ≤ 1000000000 := by rw [← length_sbytes, sbytes_str hbys, hsl]; have := hn3; omega
    have hF := ref_First (strOfNums (slice L b (b + n))) hss wr
    rw [sbytes_str hbys] at hF
    have hun := unotes_uat true (slice L b (b + n)) uq0 b 0 rfl
    have hemp : uok uq0 (slice L b (b + n)) = false → slice L b (b + n) ≠ [] := fun h e => by rw [e] at h; cases h
    rw [Int.natCast_add] at hp1
    rw [hsl] at hun hp1 hp2
    have HNB : Hid (∀ _ : Unit, (N ++ nn).length ≤ 1000000000) := fun _ => by have := HLN.out (); rw [List.length_append]; have h9 := HN9.out (); omega
    clear hT hV hmi hbn2 hby hcp hbys hss hsl
    generalize strOfNums (slice L b (b + n)) = S at hp2 hF
    generalize uat uq0 (slice L b (b + n)) 0 = u at hF hun
    generalize uok uq0 (slice L b (b + n)) = ok at hF hun hemp
    obtain ⟨UN, hUE⟩ : ∃ UN, unotes true uq0 (slice L b (b + n)) b = UN := ⟨_, rfl⟩
    rw [hUE] at hun
    have HUE := Lib.hid hUE
    clear hUE
    have HF := Lib.hid hF
    have HEM := Lib.hid hemp
    clear hF hemp
    rcases hun with ⟨p, rfl, hp, rfl⟩ | ⟨rfl, hUN⟩
    · have hp0 : (0 : Int) ≤ ((0 + p : Nat) : Int) := by omega
      have hp3 : ((0 + p : Nat) : Int) ≤ 300 := by omega
      have hbp : (b : Int) + ((0 + p : Nat) : Int) = ((b + p : Nat) : Int) := by omega
      generalize b + p = bp at *
      generalize ((0 + p : Nat) : Int) = u at *
      clear hp HEM
      go_wp2_with fail
      refine HF.out.mono ?_
      rintro e7 w7 ⟨rfl, rfl⟩
      go_wp2_with fail
      refine (ref_note _ B g (some ⟨ab, ao, none⟩) cap L D K s (N ++ nn) _ bp 6 HSS.out HBB.out (HNB.out ())).mono ?_
      rintro e8 w8 ⟨rfl, hs8, hw8⟩
      have HS8 := Lib.hid hs8
      have HW8 := Lib.hid (HBE.out.trans hw8)
      clear hs8 hw8
      go_wp2_with fail
      refine bodyPost_ret (results_tmp2 rfl _ _ _) rfl ?_
      exact ⟨rfl, by rw [HUE.out]; simpa using HS8.out, HW8.out⟩
    · cases ok with
      | true =>
        have hUN2 : UN = [] := by rw [hUN]; exact if_neg (by simp)
        subst hUN2
        clear hUN HEM
        go_wp2_with fail
        refine HF.out.mono ?_
        rintro e7 w7 ⟨rfl, rfl⟩
        go_wp2_with fail
        refine bodyPost_ret (results_tmp2 rfl _ _ _) rfl ?_
        exact ⟨rfl, by rw [HUE.out]; simpa using HSS.out, HBE.out⟩
      | false =>
        have hUN2 : UN = [(b + n - 1, 6)] := by rw [hUN]; exact if_pos ⟨rfl, HEM.out rfl, rfl⟩
        have hn0 : n ≠ 0 := fun h => HEM.out rfl (by subst h; exact slice_nil L b)
        have hbp : (b : Int) + n - 1 = ((b + n - 1 : Nat) : Int) := by omega
        subst hUN2
        generalize b + n - 1 = bp at hbp HUE
        clear hUN HEM hn0
        go_wp2_with fail
        refine HF.out.mono ?_
        rintro e7 w7 ⟨rfl, rfl⟩
        go_wp2_with fail
        refine (ref_note _ B g (some ⟨ab, ao, none⟩) cap L D K s (N ++ nn) _ bp 6 HSS.out HBB.out (HNB.out ())).mono ?_
        rintro e8 w8 ⟨rfl, hs8, hw8⟩
        have HS8 := Lib.hid hs8
        have HW8 := Lib.hid (HBE.out.trans hw8)
        clear hs8 hw8
        go_wp2_with fail
        refine bodyPost_ret (results_tmp2 rfl _ _ _) rfl ?_
        exact ⟨rfl, by rw [HUE.out]; simpa using HS8.out, HW8.out⟩
  | succ m =>
    have hlt : (i : Int) < (b : Int) + n := by omega
    have hbn2 := HBN.out ()
    have hil : i < L.length := by omega
    have hii : (i : Int) < L.length := by omega
    have hi0 : (0 : Int) ≤ i := by omega
    have hwi : IntKind.i64.wrap ((i : Int) + 1) = (i : Int) + 1 := IntWalk.i64_in _ (by omega)
    obtain ⟨vA', vE', vV', hV⟩ := hT.sn
    have hbW : Below wr.heap.size wr (wr.alloc (.cells #[.int .i64 2, .int .i64 0, .int .i64 0, .int .i64 (dp : Int), .int .i64 (i : Int), .int .u64 0, .int .u8 (L.getD i 0)] 48)).drew := below_drawn (below_alloc _ _)
    have hV2 := hV.on hbW hT.hb
    have hgo := ev_addB hV2 (Nat.le_trans hT.hb hbW.size) (by have := HSN.out (); rw [List.length_append, List.length_append, List.length_singleton, length_bevs, length_slice (by omega)]; omega) ⟨2, 0, 0, 0, L.getD i 0, dp, i⟩ wr.heap.size (Blk.fresh wr 48 (AEv.cells ⟨2, 0, 0, 0, L.getD i 0, dp, i⟩).toArray).drew
    rw [List.append_assoc, ← bevs_step hT.lo hil] at hgo
    have hbW2 := hbW.mono hT.hb
    have hV1 := hV.on (below_alloc wr (.cells #[.int .i64 2, .int .i64 0, .int .i64 0, .int .i64 (dp : Int), .int .i64 (i : Int), .int .u64 0, .int .u8 (L.getD i 0)] 48)) hT.hb
    obtain ⟨ab', ao', he1, -, hcb⟩ := hV.rd.get hil
    injection he1 with he1
    injection he1 with he1 he2
    subst he1
    subst he2
    obtain ⟨ab', ao', he1, -, hcb1⟩ := hV1.rd.get hil
    injection he1 with he1
    injection he1 with he1 he2
    subst he1
    subst he2
    obtain ⟨k0, -, -, -, -, -, k6, -⟩ := hV.cells
    obtain ⟨j0, -, -, -, -, -, j6, -⟩ := hV1.cells
    obtain ⟨ab', ao', he1, -, hcb2⟩ := hV2.rd.get hil
    injection he1 with he1
    injection he1 with he1 he2
    subst he1
    subst he2
    obtain ⟨l0, -, -, -, -, -, l6, -⟩ := hV2.cells
    obtain ⟨A9, n9, c9, w9, hr9, h69, h79, hs9, hw9⟩ := hgo
    have HN9 : Hid (TextI w (w9.setCell ⟨g, 6, none⟩ (.slice A9 n9 c9)) B g (some ⟨ab, ao, none⟩) cap L D K s (N ++ nn) (E ++ [⟨1, 3, W, (n : Int), 0, dp, b1⟩]) dp b (i + 1)) := ⟨Nat.le_succ_of_le hT.lo, hs9, Nat.le_trans (Nat.le_trans hT.hb hbW2.size) hw9.size, (hT.bel.trans hbW2).trans hw9⟩
    have HR := Lib.hid hr9
    have HMI := Lib.hid (fun _ : Unit => hmi)
    have HZ := ev_zero
    unfold ev0 at HZ
    clear hr9 hs9 hw9 hT hV hV1 hV2 hbW hbW2 hmi hil hbn2
    generalize L.getD i 0 = x at *
    go_wp2_with fail
    go_region_law (refine step_append_run rfl rfl HR.out rfl rfl ?_)
    go_wp2_with fail
    all_goals exact HK6.out _ _ m (Nat.lt_succ_self m) rfl ⟨i + 1, by have := HMI.out (); omega, rfl, HN9.out⟩
end Go.Proofs.Ytchhbcmkhbfpoaa
