/- Package utf: the calls as a law meets them; the document's example. -/
import Derived.Test.YtjelgoeamaejmaaGreatKAT
import Derived.Test.YtjelgoeamaejmaaGreatKAV
import Derived.Test.YtjelgoeamaejmaaGreatKBD
import Derived.Test.YtjelgoeamaejmaaGreatKBA
namespace Go.Proofs.YtjelgoeamaejmaaGreat
open Go.RowKit

/-- Where a text goes wrong. -/
theorem uat_cases (q : UQ) (l : List Int) (hq : q.wr = false) : (uat q l 0 = -1 ∧ ∀ k, k ≤ l.length → (ust q l k).wr = false) ∨ ∃ k, k < l.length ∧ uat q l 0 = k ∧ (ust q l k).wr = false ∧ (ust q l (k + 1)).wr = true := by
  by_cases h : ∀ k, k ≤ l.length → (ust q l k).wr = false
  · exact Or.inl ⟨uat_none h, h⟩
  · right
    have : ∀ n, n ≤ l.length → (∀ k, k ≤ n → (ust q l k).wr = false) ∨ ∃ k, k < n ∧ (ust q l k).wr = false ∧ (ust q l (k + 1)).wr = true := by
      intro n
      induction n with
      | zero => intro _; left; intro k hk; rw [show k = 0 by omega]; exact hq
      | succ n ih =>
        intro hn
        rcases ih (by omega) with h1 | ⟨k, h1, h2, h3⟩
        · cases hw : (ust q l (n + 1)).wr with
          | true => exact Or.inr ⟨n, by omega, h1 n (Nat.le_refl _), hw⟩
          | false =>
            left
            intro k hk
            by_cases hkn : k ≤ n
            · exact h1 k hkn
            · rw [show k = n + 1 by omega]; exact hw
        · exact Or.inr ⟨k, by omega, h2, h3⟩
    rcases this l.length (Nat.le_refl _) with h1 | ⟨k, h1, h2, h3⟩
    · exact absurd h1 h
    · exact ⟨k, h1, uat_some k h1 h2 h3, h2, h3⟩
theorem ust_append (q : UQ) (a b : List Int) (k : Nat) (hk : k ≤ a.length) : ust q (a ++ b) k = ust q a k := by
  unfold ust
  rw [List.take_append_of_le_length hk]
theorem done_from (q : UQ) (b : List Int) (h0 : q.left = 0) (hw : q.wr = false) : udone (urun q b) = udone (urun uq0 b) := by
  cases b with
  | nil =>
    show udone q = true
    unfold udone
    rw [hw, h0]
    rfl
  | cons c r =>
    show udone (urun (ustep q c) r) = udone (urun (ustep uq0 c) r)
    cases hm : umore c with
    | some n => rw [ustep_some h0 hw hm, ustep_some rfl rfl hm]
    | none =>
      have h1 := ustep_none h0 hw hm
      have h2 := ustep_none (q := uq0) rfl rfl hm
      rw [urun_wr _ _ h1, urun_wr _ _ h2, udone_wr h1, udone_wr h2]
theorem uok_append (a b : List Int) (h : uok uq0 a = true) : uok uq0 (a ++ b) = uok uq0 b := by
  unfold uok
  rw [urun_append]
  unfold uok udone at h
  simp only [Bool.and_eq_true, Bool.not_eq_true', beq_iff_eq] at h
  exact done_from _ _ h.2 h.1
theorem uat_append (a b : List Int) (h : 0 ≤ uat uq0 a 0) : uok uq0 (a ++ b) = false ∧ uat uq0 (a ++ b) 0 = uat uq0 a 0 := by
  rcases uat_cases uq0 a rfl with ⟨h1, _⟩ | ⟨k, h1, h2, h3, h4⟩
  · omega
  · have h3' : (ust uq0 (a ++ b) k).wr = false := by rw [ust_append _ _ _ _ (by omega)]; exact h3
    have h4' : (ust uq0 (a ++ b) (k + 1)).wr = true := by rw [ust_append _ _ _ _ (by omega)]; exact h4
    exact ⟨uok_wr (k := k + 1) (by simp; omega) h4', by rw [h2]; exact uat_some k (by simp; omega) h3' h4'⟩
theorem uat_ok (a : List Int) (h : uok uq0 a = true) : uat uq0 a 0 = -1 := by
  rcases uat_cases uq0 a rfl with ⟨h1, _⟩ | ⟨k, h1, h2, h3, h4⟩
  · exact h1
  · rw [uok_wr (k := k + 1) (by omega) h4] at h
    cases h
theorem uat_or (a : List Int) : uat uq0 a 0 = -1 ∨ ∃ k : Nat, uat uq0 a 0 = k := by
  rcases uat_cases uq0 a rfl with ⟨h1, _⟩ | ⟨k, _, h2, _, _⟩
  · exact Or.inl h1
  · exact Or.inr ⟨k, h2⟩
theorem sbytes_append (a b : ByteArray) : sbytes (a ++ b) = sbytes a ++ sbytes b := by simp [sbytes]
theorem sbytes_extract (s : ByteArray) (k : Nat) : sbytes (s.extract 0 k) = (sbytes s).take k := by
  simp [sbytes, List.map_take]

theorem awake_at : uat uq0 (sbytes ⟨#[97, 237, 160]⟩) 0 = 2 := by decide +kernel
theorem awake_ok : uok uq0 (sbytes ⟨#[97, 195, 169]⟩) = true := by decide +kernel
end Go.Proofs.YtjelgoeamaejmaaGreat

/- The document's wrong: what is wrong of keys. -/
namespace Go.Proofs.YtjelgoeamaejmaaGreat
open Go.RowKit

theorem keys_none {fs : List Fl} (h0 : ∀ j, j < fs.length → keyE fs j = 0) : keysN fs = 0 := firstE_all h0
theorem mem_keys {fs : List Fl} {k j : Nat} {x y : Fl} (hj : j < k) (hy : fs[j]? = some y) (e : y.key = x.key) : x.key ∈ (fs.take k).map Fl.key :=
  List.mem_map.2 ⟨y, List.mem_of_getElem? (i := j) (by rw [List.getElem?_take, if_pos hj]; exact hy), e⟩
theorem not_mem_keys {fs : List Fl} {k : Nat} {x : Fl} (h : ∀ j y, j < k → fs[j]? = some y → y.key ≠ x.key) : x.key ∉ (fs.take k).map Fl.key := fun hm => by
  obtain ⟨y, hy, e⟩ := List.mem_map.1 hm
  obtain ⟨j, hj⟩ := List.mem_iff_getElem?.1 hy
  rw [List.getElem?_take] at hj
  split at hj
  · exact h j y (by assumption) hj e
  · cases hj
theorem kinds11 {k : Int} (h : ¬ k < 0) (h' : ¬ 10 < k) : k = 0 ∨ k = 1 ∨ k = 2 ∨ k = 3 ∨ k = 4 ∨ k = 5 ∨ k = 6 ∨ k = 7 ∨ k = 8 ∨ k = 9 ∨ k = 10 := by omega

end Go.Proofs.YtjelgoeamaejmaaGreat
