/- Package utf: whole texts. -/
import Derived.Test.YtchhbcmkhbfpoaaKAY
import Derived.Deep.WholeRow
import Derived.Test.YtchhbcmkhbfpoaaKAI
import Derived.Outline
import Derived.Test.YtchhbcmkhbfpoaaRows
import Derived.Test.YtchhbcmkhbfpoaaKAK
import Derived.RegionTactic
namespace Go.Proofs.Ytchhbcmkhbfpoaa
open Go.RowKit

/-- The state after the first k bytes. -/
def ust (q : UQ) (l : List Int) (k : Nat) : UQ := urun q (l.take k)
theorem urun_append (q : UQ) (a b : List Int) : urun q (a ++ b) = urun (urun q a) b := by
  induction a generalizing q with
  | nil => rfl
  | cons c r ih => exact ih _
theorem ust_zero (q : UQ) (l : List Int) : ust q l 0 = q := rfl
theorem ust_succ (q : UQ) (l : List Int) (k : Nat) (h : k < l.length) : ust q l (k + 1) = ustep (ust q l k) (l.getD k 0) := by
  unfold ust
  rw [List.take_add_one, urun_append]
  simp [h, urun, List.getD_eq_getElem?_getD]
theorem ust_all (q : UQ) (l : List Int) : ust q l l.length = urun q l := by unfold ust; rw [List.take_length]
theorem ustep_left (q : UQ) (c : Int) (h : q.left ≤ 3) : (ustep q c).left ≤ 3 := by
  unfold ustep
  split
  · exact h
  split
  · split
    · rename_i n hn
      have := umore_some hn
      show n ≤ 3
      omega
    · exact h
  split
  · exact h
  · show q.left - 1 ≤ 3
    omega
theorem urun_left (l : List Int) : ∀ q : UQ, q.left ≤ 3 → (urun q l).left ≤ 3 := by
  induction l with
  | nil => exact fun q h => h
  | cons c r ih => exact fun q h => ih _ (ustep_left q c h)
theorem ust_left (l : List Int) (k : Nat) : (ust uq0 l k).left ≤ 3 := urun_left _ _ (Nat.zero_le _)
theorem ustep_wr (q : UQ) (c : Int) (h : q.wr = true) : ustep q c = q := by unfold ustep; rw [if_pos h]
theorem urun_wr (q : UQ) (l : List Int) (h : q.wr = true) : urun q l = q := by
  induction l with
  | nil => rfl
  | cons c r ih => show urun (ustep q c) r = q; rw [ustep_wr q c h, ih]
/-- The first wrong byte's place. -/
theorem uat_shift (l : List Int) : ∀ (q : UQ) (i : Nat), uat q l i = if uat q l 0 < 0 then -1 else uat q l 0 + i := by
  induction l with
  | nil => intro q i; rfl
  | cons c r ih =>
    intro q i
    unfold uat
    split
    · simp
    · rw [ih _ (i + 1), ih _ (0 + 1)]
      split
      · simp
      · split <;> omega
theorem uat_none {q : UQ} {l : List Int} (h : ∀ k, k ≤ l.length → (ust q l k).wr = false) : uat q l 0 = -1 := by
  induction l generalizing q with
  | nil => rfl
  | cons c r ih =>
    have h1 : (ustep q c).wr = false := by simpa [ust, urun] using h 1 (by simp)
    have := ih (q := ustep q c) (fun k hk => by simpa [ust, urun] using h (k + 1) (by simp; omega))
    unfold uat
    rw [if_neg (by simp [h1]), uat_shift, this]
    rfl
theorem uat_some {q : UQ} {l : List Int} (k : Nat) (hk : k < l.length) (h : (ust q l k).wr = false) (h' : (ust q l (k + 1)).wr = true) : uat q l 0 = k := by
  induction l generalizing q k with
  | nil => simp at hk
  | cons c r ih =>
    cases k with
    | zero =>
      have h1 : (ustep q c).wr = true := by simpa [ust, urun] using h'
      unfold uat
      rw [if_pos h1]
    | succ k =>
      have h1 : (ust (ustep q c) r k).wr = false := by simpa [ust, urun] using h
      have h0 : (ustep q c).wr = false := by
        cases hw : (ustep q c).wr with
        | false => rfl
        | true =>
          have := urun_wr (ustep q c) (r.take k) hw
          unfold ust at h1
          rw [this, hw] at h1
          cases h1
      have := ih (q := ustep q c) k (by simpa using hk) h1 (by simpa [ust, urun] using h')
      unfold uat
      rw [if_neg (by simp [h0]), uat_shift, this, if_neg (by omega)]
      simp
/-- Once wrong, wrong. -/
theorem ust_wr_mono {q : UQ} {l : List Int} {j k : Nat} (hjk : j ≤ k) (h : (ust q l j).wr = true) : (ust q l k).wr = true := by
  have e : l.take k = l.take j ++ (l.take k).drop j := by
    have := (List.take_append_drop j (l.take k)).symm
    rwa [List.take_take, Nat.min_eq_left hjk] at this
  unfold ust at h ⊢
  rw [e, urun_append, urun_wr _ _ h, h]
theorem uok_wr {q : UQ} {l : List Int} {k : Nat} (hk : k ≤ l.length) (h : (ust q l k).wr = true) : uok q l = false := by
  have := ust_wr_mono hk h
  rw [ust_all] at this
  unfold uok udone
  rw [this]
  rfl
theorem udone_wr {q : UQ} (h : q.wr = true) : udone q = false := by
  unfold udone
  rw [h]
  rfl
/-- What is stored, field by field. -/
theorem ublk_put {w : World} {g : Nat} {t : TypeId} {q : UQ} (h : Blk w g t (ucells q)) (n : Nat) (l u : Int) (b : Bool) :
    Blk ((((w.setCell ⟨g, 0, none⟩ (.int .i64 n)).setCell ⟨g, 1, none⟩ (.int .u8 l)).setCell ⟨g, 2, none⟩ (.int .u8 u)).setCell ⟨g, 3, none⟩ (.bool b)) g t (ucells ⟨n, l, u, b⟩) :=
  (((h.put 0 (.int .i64 n)).put 1 (.int .u8 l)).put 2 (.int .u8 u)).put 3 (.bool b)
theorem below_put4 {w0 w : World} {B g : Nat} (h : Below B w0 w) (hg : B ≤ g) (x0 x1 x2 x3 : Value) :
    Below B w0 ((((w.setCell ⟨g, 0, none⟩ x0).setCell ⟨g, 1, none⟩ x1).setCell ⟨g, 2, none⟩ x2).setCell ⟨g, 3, none⟩ x3) :=
  (((h.setCell hg x0).setCell hg x1).setCell hg x2).setCell hg x3
theorem uq_zero : ∀ w, (zeroValue 71).run Try.prog w = .ok (.agg (ucells uq0)) w := (zero_of_info (n := 4) (by kernel_rfl)).1

end Go.Proofs.Ytchhbcmkhbfpoaa

/- The document's answer for texts: sign by sign. -/
namespace Go.Proofs.Ytchhbcmkhbfpoaa
open Go.RowKit

/-- Is a place's byte one that follows? -/
def isF (s : ByteArray) (k : Nat) : Prop := k < s.size ∧ 128 ≤ sb s k ∧ sb s k ≤ 191
instance (s : ByteArray) (k : Nat) : Decidable (isF s k) := by unfold isF; exact inferInstance
/-- How many follow, of n, from a place on. -/
def ufol (s : ByteArray) (i : Nat) : Nat → Nat
  | 0 => 0
  | n + 1 => if isF s i then 1 + ufol s (i + 1) n else 0
theorem ufol_le (s : ByteArray) : ∀ (n i : Nat), ufol s i n ≤ n
  | 0, _ => Nat.le_refl _
  | n + 1, i => by
    unfold ufol
    split
    · have := ufol_le s n (i + 1); omega
    · omega
theorem ufol_at {s : ByteArray} : ∀ {k n i : Nat}, k ≤ n → (∀ j, j < k → isF s (i + j)) → (k = n ∨ ¬ isF s (i + k)) → ufol s i n = k
  | 0, 0, i, _, _, _ => rfl
  | 0, n + 1, i, _, _, h => by
    unfold ufol
    rw [if_neg (by
      rcases h with h | h
      · omega
      · exact h)]
  | k + 1, 0, _, h, _, _ => by omega
  | k + 1, n + 1, i, h, h1, h2 => by
    unfold ufol
    rw [if_pos (show isF s i from h1 0 (by omega)), ufol_at (k := k) (by omega) (fun j hj => by rw [show i + 1 + j = i + (j + 1) by omega]; exact h1 (j + 1) (by omega)) (by
      rcases h2 with h2 | h2
      · left; omega
      · right; rw [show i + 1 + k = i + (k + 1) by omega]; exact h2)]
    omega

set_option maxRecDepth 100000 in
theorem ref_follow (s : ByteArray) (hs : s.size ≤ 1000000000) (i n : Nat) (hi : i ≤ 1000000010) (hn : n ≤ 4) (w : World) :
    Calls Try.prog 75 #[.string s, .int .i64 i, .int .i64 n] w fun e w' => e = .returned (.int .i64 (ufol s i n)) ∧ w = w' := by
  have HI := fun (w : World) (k : Nat) (hk : k < s.size) (x : Int) (hx : x = k) => run_sb (P := Try.prog) Try.underlying9 w s k hk x hx
  go_enter Try.func75, Try.ntmps75
  go_wp2_with fail
  go_loop [7] (fun k => ∃ m : Nat, m ≤ n ∧ k = .int .i64 m ∧ ∀ j, j < m → isF s (i + j)) (fun k => n - (intOf k).toNat)
  case atStart => exact ⟨0, by omega, rfl, fun j hj => by omega⟩
  case round =>
    obtain ⟨m, hm, rfl, hf⟩ := hrel
    have HF := Lib.hid hf
    clear hf
    by_cases h1 : m < n
    · by_cases h2 : i + m < s.size
      · have hi' := HI w (i + m) h2 ((i : Int) + m) (by simp)
        clear HI
        by_cases h3 : 128 ≤ sb s (i + m)
        · by_cases h4 : sb s (i + m) ≤ 191
          · go_wp2_with fail
            go_round
            case rel => exact ⟨m + 1, by omega, by go_num, fun j hj => (by
              by_cases hjm : j < m
              · exact HF.out j hjm
              · rw [show j = m by omega]; exact ⟨h2, h3, h4⟩)⟩
            case measure => simp [intOf]; omega
          · have e := Lib.hid (ufol_at (s := s) (i := i) hm HF.out (Or.inr (fun hx => h4 hx.2.2)))
            go_wp2_with fail
            go_ret
            exact ⟨by rw [e.out]; rfl, rfl⟩
        · have e := Lib.hid (ufol_at (s := s) (i := i) hm HF.out (Or.inr (fun hx => h3 hx.2.1)))
          go_wp2_with fail
          go_ret
          exact ⟨by rw [e.out]; rfl, rfl⟩
      · have e := Lib.hid (ufol_at (s := s) (i := i) hm HF.out (Or.inr (fun hx => h2 hx.1)))
        have h2' : ¬ ((i : Int) + m < s.size) := by omega
        clear HI
        go_wp2_with fail
        go_ret
        exact ⟨by rw [e.out]; rfl, rfl⟩
    · have e := Lib.hid (ufol_at (s := s) (i := i) hm HF.out (Or.inl (by omega)))
      clear HI
      go_wp2_with fail
      go_ret
      exact ⟨by rw [e.out]; rfl, rfl⟩
end Go.Proofs.Ytchhbcmkhbfpoaa

/- The document's answer for texts: a sign. -/
namespace Go.Proofs.Ytchhbcmkhbfpoaa
open Go.RowKit
set_option maxRecDepth 100000

/-- A sign's first byte c: it has n bytes, the next one's bounds are lo, hi. -/
def Lead (c : Int) (n : Nat) (lo hi : Int) : Prop :=
  (n = 2 ∧ 194 ≤ c ∧ c ≤ 223 ∧ lo = 128 ∧ hi = 191) ∨ (n = 3 ∧ c = 224 ∧ lo = 160 ∧ hi = 191) ∨ (n = 3 ∧ c = 237 ∧ lo = 128 ∧ hi = 159) ∨ (n = 3 ∧ 225 ≤ c ∧ c ≤ 239 ∧ (c == 237) = false ∧ lo = 128 ∧ hi = 191) ∨
  (n = 4 ∧ c = 240 ∧ lo = 144 ∧ hi = 191) ∨ (n = 4 ∧ c = 244 ∧ lo = 128 ∧ hi = 143) ∨ (n = 4 ∧ 241 ≤ c ∧ c ≤ 243 ∧ lo = 128 ∧ hi = 191)
theorem lead_of {c : Int} {m : Nat} (h : umore c = some (m + 1)) : Lead c (m + 2) (ulo c) (uhi c) := by
  unfold Lead ulo uhi
  rcases umore_some h with ⟨h, r1, r2⟩ | ⟨h, r1, r2⟩ | ⟨h, r1, r2⟩ | ⟨h, r1⟩
  · have hm : m + 2 = 4 := by omega
    by_cases e1 : c = 240
    · subst e1; simp [hm]
    by_cases e2 : c = 244
    · subst e2; simp [hm]
    right; right; right; right; right; right
    rw [if_neg (by omega), if_neg e1, if_neg (by omega), if_neg e2]
    omega
  · have hm : m + 2 = 3 := by omega
    by_cases e1 : c = 224
    · subst e1; simp [hm]
    by_cases e2 : c = 237
    · subst e2; simp [hm]
    right; right; right; left
    rw [if_neg e1, if_neg (by omega), if_neg e2, if_neg (by omega), beq_eq_false_iff_ne]
    omega
  · have hm : m + 2 = 2 := by omega
    left
    rw [if_neg (by omega), if_neg (by omega), if_neg (by omega), if_neg (by omega)]
    omega
  · omega
set_option maxHeartbeats 1000000 in
theorem ref_sign_short (s : ByteArray) (hs : s.size ≤ 1000000000) (i n : Nat) (lo hi : Int) (hl : Lead (sb s i) n lo hi) (h0 : i < s.size) (h1 : s.size = i + 1) (w : World) :
    Calls Try.prog 57 #[.string s, .int .i64 i] w fun e w' => e = .returned (.tuple #[.int .i64 n, .int .i64 1]) ∧ w = w' := by
  have HI := fun (w : World) (k : Nat) (hk : k < s.size) (x : Int) (hx : x = k) => run_sb (P := Try.prog) Try.underlying9 w s k hk x hx
  have i0 := HI w i h0 i rfl
  have g1 : (s.size : Int) ≤ (i : Int) + 1 := by omega
  clear HI
  generalize sb s i = c at *
  rcases hl with ⟨rfl, r1, r2, rfl, rfl⟩ | ⟨rfl, rfl, rfl, rfl⟩ | ⟨rfl, rfl, rfl, rfl⟩ | ⟨rfl, r1, r2, r3, rfl, rfl⟩ | ⟨rfl, rfl, rfl, rfl⟩ | ⟨rfl, rfl, rfl, rfl⟩ | ⟨rfl, r1, r2, rfl, rfl⟩
  all_goals (
    go_enter Try.func57, Try.ntmps57
    go_wp2_with fail
    go_ret2
    exact ⟨rfl, rfl⟩)
set_option maxHeartbeats 2000000 in
theorem ref_sign_bad (s : ByteArray) (hs : s.size ≤ 1000000000) (i n : Nat) (lo hi : Int) (hl : Lead (sb s i) n lo hi) (h1 : i + 1 < s.size) (hb : sb s (i + 1) < lo ∨ hi < sb s (i + 1)) (w : World) :
    Calls Try.prog 57 #[.string s, .int .i64 i] w fun e w' => e = .returned (.tuple #[.int .i64 n, .int .i64 1]) ∧ w = w' := by
  have HI := fun (w : World) (k : Nat) (hk : k < s.size) (x : Int) (hx : x = k) => run_sb (P := Try.prog) Try.underlying9 w s k hk x hx
  have h0 : i < s.size := by omega
  have i0 := HI w i h0 i rfl
  have i1 := HI w (i + 1) h1 ((i : Int) + 1) (by simp)
  have g1 : (i : Int) + 1 < (s.size : Int) := by omega
  clear HI
  generalize sb s i = c at *
  generalize sb s (i + 1) = d at *
  by_cases hd : d < lo
  · clear hb
    rcases hl with ⟨rfl, r1, r2, rfl, rfl⟩ | ⟨rfl, rfl, rfl, rfl⟩ | ⟨rfl, rfl, rfl, rfl⟩ | ⟨rfl, r1, r2, r3, rfl, rfl⟩ | ⟨rfl, rfl, rfl, rfl⟩ | ⟨rfl, rfl, rfl, rfl⟩ | ⟨rfl, r1, r2, rfl, rfl⟩
    all_goals (
      go_enter Try.func57, Try.ntmps57
      go_wp2_with fail
      go_ret2
      exact ⟨rfl, rfl⟩)
  · have hd2 : hi < d := by omega
    clear hb
    rcases hl with ⟨rfl, r1, r2, rfl, rfl⟩ | ⟨rfl, rfl, rfl, rfl⟩ | ⟨rfl, rfl, rfl, rfl⟩ | ⟨rfl, r1, r2, r3, rfl, rfl⟩ | ⟨rfl, rfl, rfl, rfl⟩ | ⟨rfl, rfl, rfl, rfl⟩ | ⟨rfl, r1, r2, rfl, rfl⟩
    all_goals (
      go_enter Try.func57, Try.ntmps57
      go_wp2_with fail
      go_ret2
      exact ⟨rfl, rfl⟩)
set_option maxHeartbeats 2000000 in
theorem ref_sign_good (s : ByteArray) (hs : s.size ≤ 1000000000) (i n : Nat) (lo hi : Int) (hl : Lead (sb s i) n lo hi) (h1 : i + 1 < s.size) (hb : lo ≤ sb s (i + 1)) (hb' : sb s (i + 1) ≤ hi) (w : World) :
    Calls Try.prog 57 #[.string s, .int .i64 i] w fun e w' => e = .returned (.tuple #[.int .i64 n, .int .i64 (2 + ufol s (i + 2) (n - 2) : Nat)]) ∧ w = w' := by
  have HI := fun (w : World) (k : Nat) (hk : k < s.size) (x : Int) (hx : x = k) => run_sb (P := Try.prog) Try.underlying9 w s k hk x hx
  have h0 : i < s.size := by omega
  have i0 := HI w i h0 i rfl
  have i1 := HI w (i + 1) h1 ((i : Int) + 1) (by simp)
  have g1 : (i : Int) + 1 < (s.size : Int) := by omega
  have hn : 2 ≤ n ∧ n ≤ 4 := by unfold Lead at hl; omega
  have HF := Lib.hid (ref_follow s hs (i + 2) (n - 2) (by omega) (by omega))
  rw [show ((i + 2 : Nat) : Int) = (i : Int) + 2 by simp, show ((n - 2 : Nat) : Int) = (n : Int) - 2 by omega] at HF
  have hu := ufol_le s (n - 2) (i + 2)
  generalize ufol s (i + 2) (n - 2) = u at *
  have hu' : u ≤ 2 := by omega
  rw [show ((2 + u : Nat) : Int) = 2 + (u : Int) by simp]
  clear HI hu hn
  generalize sb s i = c at *
  generalize sb s (i + 1) = d at *
  rcases hl with ⟨rfl, r1, r2, rfl, rfl⟩ | ⟨rfl, rfl, rfl, rfl⟩ | ⟨rfl, rfl, rfl, rfl⟩ | ⟨rfl, r1, r2, r3, rfl, rfl⟩ | ⟨rfl, rfl, rfl, rfl⟩ | ⟨rfl, rfl, rfl, rfl⟩ | ⟨rfl, r1, r2, rfl, rfl⟩
  all_goals (
    simp only [Int.reduceSub, Int.cast_ofNat_Int] at HF
    go_enter Try.func57, Try.ntmps57
    go_wp2_with fail
    refine (HF.out w).mono ?_
    rintro e w' ⟨rfl, rfl⟩
    go_wp2_with fail
    go_ret2
    exact ⟨rfl, rfl⟩)
theorem ref_sign_one (s : ByteArray) (i : Nat) (h0 : i < s.size) (hm : umore (sb s i) = some 0) (w : World) :
    Calls Try.prog 57 #[.string s, .int .i64 i] w fun e w' => e = .returned (.tuple #[.int .i64 1, .int .i64 1]) ∧ w = w' := by
  have i0 := run_sb (P := Try.prog) Try.underlying9 w s i h0 i rfl
  have r1 : sb s i ≤ 127 := by have := umore_some hm; omega
  clear hm
  generalize sb s i = c at *
  go_enter Try.func57, Try.ntmps57
  go_wp2_with fail
  go_ret2
  exact ⟨rfl, rfl⟩
theorem ref_sign_none (s : ByteArray) (i : Nat) (h0 : i < s.size) (hm : umore (sb s i) = none) (w : World) :
    Calls Try.prog 57 #[.string s, .int .i64 i] w fun e w' => e = .returned (.tuple #[.int .i64 0, .int .i64 0]) ∧ w = w' := by
  have i0 := run_sb (P := Try.prog) Try.underlying9 w s i h0 i rfl
  obtain ⟨r1, r2, r3, r4⟩ := umore_none hm
  clear hm
  generalize sb s i = c at *
  go_enter Try.func57, Try.ntmps57
  go_wp2_with fail
  all_goals go_ret2
  all_goals exact ⟨rfl, rfl⟩
end Go.Proofs.Ytchhbcmkhbfpoaa
