/- The one encoding, plain: what begins with it is it. -/
import Derived.Test.YtgbbgdjdomkohaaGreatKAL
import Derived.Test.YtgbbgdjdomkohaaGreatKAV
import Derived.Test.YtgbbgdjdomkohaaGreatKAK
import Derived.Test.YtgbbgdjdomkohaaGreatKAN
import Derived.Lib.BytesEntry
import Derived.Test.YtgbbgdjdomkohaaGreatRows
import Derived.RegionTactic
import Derived.BigRegion
import Derived.Deep.RegionHeld3
import Derived.Sort.WalkA
namespace Go.Proofs.YtgbbgdjdomkohaaGreat

open Classical in
/-- The bytes of a float's head. -/
noncomputable def fhead (x : Nat) : List Int := if h : ∃ p : Nat × Nat, Shortest x p.1 p.2 then hlay 7 h.choose.2 h.choose.1 else []
theorem fhead_of {x z k : Nat} (h : Shortest x z k) : fhead x = hlay 7 k z := by
  unfold fhead
  have hex : ∃ p : Nat × Nat, Shortest x p.1 p.2 := ⟨(z, k), h⟩
  rw [dif_pos hex]
  obtain ⟨h1, h2⟩ := shortest_fun hex.choose_spec h
  rw [h1, h2]
/-- The head of an item. -/
noncomputable def hdK (k n : Int) (m l : Nat) : List Int :=
  if k = 8 then fhead n.toNat else if k = 2 ∨ k = 3 then hputL k m else if k = 4 then hputL 4 l else if k = 5 then hputL 5 ((l / 2 : Nat) : Int) else hputL (k % 8) n
mutual
/-- The encoding of an item whose maps are in order. -/
noncomputable def It.enc : It → List Int
  | .mk k n s l => hdK k n s.size l.length ++ (sbytes s ++ encL l)
noncomputable def encL : List It → List Int
  | [] => []
  | t :: r => t.enc ++ encL r
end
theorem It.enc_eq (t : It) : t.enc = hdK t.k t.n t.s.size t.l.length ++ (sbytes t.s ++ encL t.l) := by cases t; simp [It.enc, It.k, It.n, It.s, It.l]
theorem encL_append (a b : List It) : encL (a ++ b) = encL a ++ encL b := by
  induction a with
  | nil => simp [encL]
  | cons x r ih => simp [encL, ih]
/-- An item by itself may be, but for its text and its keys. -/
def okTop (t : It) : Prop := formB t = true ∧ rangB t = true ∧ 0 ≤ t.n ∧ t.n < 18446744073709551616 ∧ t.s.size < 18446744073709551616 ∧ t.l.length < 18446744073709551616
mutual
def It.okE : It → Prop
  | .mk k n s l => okTop (.mk k n s l) ∧ okEL l
def okEL : List It → Prop
  | [] => True
  | t :: r => t.okE ∧ okEL r
end
theorem It.okE_eq (t : It) : t.okE ↔ okTop t ∧ okEL t.l := by cases t; simp [It.okE, It.l]
theorem okEL_iff {l : List It} : okEL l ↔ ∀ t ∈ l, t.okE := by
  induction l with
  | nil => simp [okEL]
  | cons x r ih => simp [okEL, ih]

theorem hread_floatR {x z k : Nat} (r : List Int) (h : Shortest x z k) (hx : x < 2 ^ 64) : hread (hlay 7 k z ++ r) = ⟨7, k, z, (hlay 7 k z).length, -1, 0⟩ := by
  have hs : fshort (k : Int) (z : Int) = true := by
    unfold fshort
    have := (sh_wd h hx).2.2
    simpa using this
  have hk : ((k : Int) = 2 ∧ (z : Int) < 65536) ∨ ((k : Int) = 4 ∧ (z : Int) < 4294967296) ∨ (k : Int) = 8 := by
    rcases h with ⟨_, rfl, rfl⟩ | ⟨_, ⟨rfl, hw⟩ | ⟨rfl, hw, _⟩ | ⟨rfl, _⟩⟩
    · exact Or.inl ⟨rfl, by decide⟩
    · have := hw.1; exact Or.inl ⟨rfl, by omega⟩
    · have := hw.1; exact Or.inr (Or.inl ⟨rfl, by omega⟩)
    · exact Or.inr (Or.inr rfl)
  have hz : (z : Int) < 18446744073709551616 := by have := (sh_wd h hx).1; omega
  have hp : (z : Int) < 256 ^ ((k : Int)).toNat := by
    rcases hk with ⟨e, h⟩ | ⟨e, h⟩ | e <;> rw [e]
    · exact h
    · exact h
    · exact hz
  have := hread_lay 7 k z r (by decide) (by decide) (by omega) (by omega) hp (by omega)
  rw [this, hlay_length]
  unfold hlong
  have e : hshort 7 k z = true := by
    unfold hshort
    rw [if_pos ⟨rfl, by omega⟩]
    exact hs
  rw [e]
  simp only [if_true]
  congr 1
theorem shortest_ex (x : Nat) (hx : x < 2 ^ 64) : ∃ z k, Shortest x z k := by
  by_cases hn : FNan 11 52 x
  · exact ⟨_, _, .inl ⟨hn, rfl, rfl⟩⟩
  · by_cases h2 : ∃ y, Wide 5 10 1050 y x
    · obtain ⟨y, hy⟩ := h2
      exact ⟨y, 2, .inr ⟨hn, .inl ⟨rfl, hy⟩⟩⟩
    · by_cases h4 : ∃ y, Wide 8 23 925 y x
      · obtain ⟨y, hy⟩ := h4
        exact ⟨y, 4, .inr ⟨hn, .inr (.inl ⟨rfl, hy, fun y h => h2 ⟨y, h⟩⟩)⟩⟩
      · exact ⟨x, 8, .inr ⟨hn, .inr (.inr ⟨rfl, rfl, fun y h => h2 ⟨y, h⟩, fun y h => h4 ⟨y, h⟩⟩)⟩⟩
/-- A float is told by its shortest form. -/
theorem short_inj {x x' z k : Nat} (hx : x < 2 ^ 64) (hx' : x' < 2 ^ 64) (h : Shortest x z k) (h' : Shortest x' z k) (hn : FNan 11 52 x → x = 9221120237041090560) (hn' : FNan 11 52 x' → x' = 9221120237041090560) : x = x' := by
  have e := wd_fun (sh_wd h hx).2.1 (sh_wd h' hx').2.1
  by_cases a : FNan 11 52 x <;> by_cases b : FNan 11 52 x'
  · rw [hn a, hn' b]
  · rw [if_pos a, if_neg b] at e; rw [hn a, e]
  · rw [if_neg a, if_pos b] at e; rw [hn' b, e]
  · rw [if_neg a, if_neg b] at e; exact e

/-- What an item's head is read as: a major type, a width, an argument. -/
def HK (t : It) (M W a : Int) : Prop :=
  (t.k = 0 ∨ t.k = 1 ∨ t.k = 6) ∧ M = t.k ∧ a = t.n ∨ (t.k = 2 ∨ t.k = 3) ∧ M = t.k ∧ a = t.s.size ∨ t.k = 4 ∧ M = 4 ∧ a = t.l.length ∨ t.k = 5 ∧ M = 5 ∧ a = ((t.l.length / 2 : Nat) : Int) ∨
    t.k = 7 ∧ M = 7 ∧ (W = 0 ∨ W = 1) ∧ a = t.n ∨ t.k = 8 ∧ M = 7 ∧ (∃ z v : Nat, Shortest t.n.toNat z v ∧ W = v ∧ a = z)
theorem hput_ne {m a : Int} (h : m ≠ 7 ∨ a < 24 ∨ (32 ≤ a ∧ a ≤ 255)) : hputL m a ≠ [] := by
  unfold hputL
  rw [if_neg (by omega)]
  simp [hlay]
theorem leastW_not8 {a : Int} (h0 : 0 ≤ a) (h : a ≤ 255) : leastW a = 0 ∨ leastW a = 1 := by
  unfold leastW
  (repeat' split) <;> omega
/-- The kinds, and what else they ask. -/
theorem ok_kinds {t : It} (h : okTop t) : (t.k = 0 ∨ t.k = 1 ∨ t.k = 7 ∨ t.k = 8) ∧ t.s.size = 0 ∧ t.l = [] ∨ (t.k = 2 ∨ t.k = 3) ∧ t.n = 0 ∧ t.l = [] ∨ t.k = 4 ∧ t.n = 0 ∧ t.s.size = 0 ∨ t.k = 5 ∧ t.n = 0 ∧ t.s.size = 0 ∧ t.l.length % 2 = 0 ∨ t.k = 6 ∧ t.s.size = 0 ∧ t.l.length = 1 := by
  obtain ⟨hf, _⟩ := h
  unfold formB formK at hf
  have hs : t.s.toList.isEmpty = true → t.s.size = 0 := fun h => by
    have h1 := List.isEmpty_iff_length_eq_zero.1 h
    rw [ByteArray.toList_eq] at h1
    simpa using h1
  have hl : (t.l.length : Int) = 0 → t.l = [] := fun h => List.length_eq_zero_iff.1 (by omega)
  split at hf
  · rename_i hk
    simp only [Bool.and_eq_true, beq_iff_eq] at hf
    exact .inl ⟨hk, hs hf.1, hl hf.2⟩
  · split at hf
    · rename_i hk
      simp only [Bool.and_eq_true, beq_iff_eq] at hf
      exact .inr (.inl ⟨hk, hf.1, hl hf.2⟩)
    · split at hf
      · rename_i hk
        simp only [Bool.and_eq_true, beq_iff_eq] at hf
        exact .inr (.inr (.inl ⟨hk, hf.1, hs hf.2⟩))
      · split at hf
        · rename_i hk
          simp only [Bool.and_eq_true, beq_iff_eq] at hf
          exact .inr (.inr (.inr (.inl ⟨hk, hf.1.1, hs hf.1.2, by omega⟩)))
        · split at hf
          · rename_i hk
            simp only [Bool.and_eq_true, beq_iff_eq] at hf
            exact .inr (.inr (.inr (.inr ⟨hk, hs hf.1, by omega⟩)))
          · cases hf
theorem rang7 {t : It} (h : rangB t = true) (h7 : t.k = 7) : t.n < 24 ∨ (32 ≤ t.n ∧ t.n ≤ 255) := by
  unfold rangB at h
  rw [if_pos h7] at h
  exact of_decide_eq_true h
theorem rang8 {t : It} (h : rangB t = true) (h8 : t.k = 8) (h0 : 0 ≤ t.n) : FNan 11 52 t.n.toNat → t.n.toNat = 9221120237041090560 := fun hn => by
  unfold rangB at h
  rw [if_neg (by omega), if_pos h8] at h
  simp only [hn, decide_true, Bool.not_true, Bool.false_or, beq_iff_eq] at h
  rw [h]
  rfl
theorem hd_read {t : It} (h : okTop t) : ∃ M W a, (∀ r, hread (hdK t.k t.n t.s.size t.l.length ++ r) = ⟨M, W, a, (hdK t.k t.n t.s.size t.l.length).length, -1, 0⟩) ∧ HK t M W a := by
  obtain ⟨hf, hr, h0, h1, h2, h3⟩ := h
  have hk := ok_kinds ⟨hf, hr, h0, h1, h2, h3⟩
  have put : ∀ (m a : Int), 0 ≤ m → m ≤ 7 → 0 ≤ a → a < 18446744073709551616 → (m ≠ 7 ∨ a < 24 ∨ (32 ≤ a ∧ a ≤ 255)) → hdK t.k t.n t.s.size t.l.length = hputL m a → HK t m (leastW a) a →
      ∃ M W a, (∀ r, hread (hdK t.k t.n t.s.size t.l.length ++ r) = ⟨M, W, a, (hdK t.k t.n t.s.size t.l.length).length, -1, 0⟩) ∧ HK t M W a := fun m a q0 q1 q2 q3 q4 q5 q6 =>
    ⟨m, leastW a, a, fun r => by rw [q5]; exact hread_put r q0 q1 q2 q3 (hput_ne q4), q6⟩
  by_cases h8 : t.k = 8
  · obtain ⟨z, v, hs⟩ := shortest_ex t.n.toNat (by omega)
    have e : hdK t.k t.n t.s.size t.l.length = hlay 7 v z := by unfold hdK; rw [if_pos h8]; exact fhead_of hs
    exact ⟨7, v, z, fun r => by rw [e]; exact hread_floatR r hs (by omega), .inr (.inr (.inr (.inr (.inr ⟨h8, rfl, z, v, hs, rfl, rfl⟩))))⟩
  · by_cases h23 : t.k = 2 ∨ t.k = 3
    · exact put t.k t.s.size (by omega) (by omega) (by omega) (by omega) (.inl (by omega)) (by unfold hdK; rw [if_neg h8, if_pos h23]) (.inr (.inl ⟨h23, rfl, rfl⟩))
    · by_cases h4 : t.k = 4
      · exact put 4 t.l.length (by omega) (by omega) (by omega) (by omega) (.inl (by omega)) (by unfold hdK; rw [if_neg h8, if_neg h23, if_pos h4]) (.inr (.inr (.inl ⟨h4, rfl, rfl⟩)))
      · by_cases h5 : t.k = 5
        · exact put 5 ((t.l.length / 2 : Nat) : Int) (by omega) (by omega) (by omega) (by omega) (.inl (by omega)) (by unfold hdK; rw [if_neg h8, if_neg h23, if_neg h4, if_pos h5]) (.inr (.inr (.inr (.inl ⟨h5, rfl, rfl⟩))))
        · have hb : hdK t.k t.n t.s.size t.l.length = hputL (t.k % 8) t.n := by unfold hdK; rw [if_neg h8, if_neg h23, if_neg h4, if_neg h5]
          have hkk : t.k = 0 ∨ t.k = 1 ∨ t.k = 7 ∨ t.k = 6 := by
            rcases hk with ⟨h, _⟩ | ⟨h, _⟩ | ⟨h, _⟩ | ⟨h, _⟩ | ⟨h, _⟩ <;> omega
          have hm : t.k % 8 = t.k := by omega
          rw [hm] at hb
          by_cases h7 : t.k = 7
          · have hg := rang7 hr h7
            rw [h7] at hb
            exact put 7 t.n (by omega) (by omega) h0 h1 (.inr hg) (by rw [h7]; exact hb) (.inr (.inr (.inr (.inr (.inl ⟨h7, rfl, leastW_not8 h0 (by omega), rfl⟩)))))
          · exact put t.k t.n (by omega) (by omega) h0 h1 (.inl h7) hb (.inl ⟨by omega, rfl, rfl⟩)
theorem head_same {x y : It} (hx : okTop x) (hy : okTop y) {r q : List Int} (e : hdK x.k x.n x.s.size x.l.length ++ r = hdK y.k y.n y.s.size y.l.length ++ q) : x.k = y.k ∧ x.n = y.n ∧ x.s.size = y.s.size ∧ x.l.length = y.l.length ∧ r = q := by
  obtain ⟨M, W, a, h1, h2⟩ := hd_read hx
  obtain ⟨M', W', a', h1', h2'⟩ := hd_read hy
  have g := h1 r
  rw [e, h1' q] at g
  injection g with g1 g2 g3 g4 g5 g6
  subst g1 g2 g3
  have hrq : r = q := (List.append_inj e (by omega)).2
  have kx := ok_kinds hx
  have ky := ok_kinds hy
  obtain ⟨_, rx, x0, x1, _, _⟩ := hx
  obtain ⟨_, ry, y0, y1, _, _⟩ := hy
  have nil0 : ∀ {t : It}, t.l = [] → t.l.length = 0 := fun h => by rw [h]; rfl
  have key : x.k = y.k ∧ x.n = y.n ∧ x.s.size = y.s.size ∧ x.l.length = y.l.length := by
    have fx : (x.k = 0 ∨ x.k = 1 ∨ x.k = 7 ∨ x.k = 8) ∧ x.s.size = 0 ∧ x.l.length = 0 ∨ (x.k = 2 ∨ x.k = 3) ∧ x.n = 0 ∧ x.l.length = 0 ∨ x.k = 4 ∧ x.n = 0 ∧ x.s.size = 0 ∨ x.k = 5 ∧ x.n = 0 ∧ x.s.size = 0 ∧ x.l.length % 2 = 0 ∨ x.k = 6 ∧ x.s.size = 0 ∧ x.l.length = 1 := by
      rcases kx with ⟨a1, a2, a3⟩ | ⟨a1, a2, a3⟩ | h | h | h
      · exact .inl ⟨a1, a2, nil0 a3⟩
      · exact .inr (.inl ⟨a1, a2, nil0 a3⟩)
      · exact .inr (.inr (.inl h))
      · exact .inr (.inr (.inr (.inl h)))
      · exact .inr (.inr (.inr (.inr h)))
    have fy : (y.k = 0 ∨ y.k = 1 ∨ y.k = 7 ∨ y.k = 8) ∧ y.s.size = 0 ∧ y.l.length = 0 ∨ (y.k = 2 ∨ y.k = 3) ∧ y.n = 0 ∧ y.l.length = 0 ∨ y.k = 4 ∧ y.n = 0 ∧ y.s.size = 0 ∨ y.k = 5 ∧ y.n = 0 ∧ y.s.size = 0 ∧ y.l.length % 2 = 0 ∨ y.k = 6 ∧ y.s.size = 0 ∧ y.l.length = 1 := by
      rcases ky with ⟨a1, a2, a3⟩ | ⟨a1, a2, a3⟩ | h | h | h
      · exact .inl ⟨a1, a2, nil0 a3⟩
      · exact .inr (.inl ⟨a1, a2, nil0 a3⟩)
      · exact .inr (.inr (.inl h))
      · exact .inr (.inr (.inr (.inl h)))
      · exact .inr (.inr (.inr (.inr h)))
    by_cases h8 : x.k = 8 ∧ y.k = 8
    · have hn : x.n = y.n := by
        rcases h2 with ⟨h, _⟩ | ⟨h, _⟩ | ⟨h, _⟩ | ⟨h, _⟩ | ⟨h, _⟩ | ⟨_, _, z, v, hs, hW, ha⟩ <;> first | omega | skip
        rcases h2' with ⟨h, _⟩ | ⟨h, _⟩ | ⟨h, _⟩ | ⟨h, _⟩ | ⟨h, _⟩ | ⟨_, _, z', v', hs', hW', ha'⟩ <;> first | omega | skip
        obtain rfl : z = z' := by omega
        obtain rfl : v = v' := by omega
        have := short_inj (by omega) (by omega) hs hs' (rang8 rx h8.1 x0) (rang8 ry h8.2 y0)
        omega
      omega
    · have w2 : ∀ {t : It} {M W a : Int}, HK t M W a → (t.k = 0 ∨ t.k = 1 ∨ t.k = 6) ∧ M = t.k ∧ a = t.n ∨ (t.k = 2 ∨ t.k = 3) ∧ M = t.k ∧ a = t.s.size ∨ t.k = 4 ∧ M = 4 ∧ a = t.l.length ∨ t.k = 5 ∧ M = 5 ∧ a = ((t.l.length / 2 : Nat) : Int) ∨
          t.k = 7 ∧ M = 7 ∧ (W = 0 ∨ W = 1) ∧ a = t.n ∨ t.k = 8 ∧ M = 7 ∧ 2 ≤ W := fun h => by
        rcases h with h | h | h | h | h | ⟨h1, h2, z, v, hs, hW, _⟩
        · exact .inl h
        · exact .inr (.inl h)
        · exact .inr (.inr (.inl h))
        · exact .inr (.inr (.inr (.inl h)))
        · exact .inr (.inr (.inr (.inr (.inl h))))
        · exact .inr (.inr (.inr (.inr (.inr ⟨h1, h2, by have := sh_wid hs; omega⟩))))
      have g2 := w2 h2
      have g2' := w2 h2'
      clear h2 h2' w2 kx ky rx ry nil0 h1 h1' e g4
      omega
  exact ⟨key.1, key.2.1, key.2.2.1, key.2.2.2, hrq⟩
theorem sbytes_inj {a b : ByteArray} (h : sbytes a = sbytes b) : a = b := by
  have h1 : a.data.toList = b.data.toList := by
    unfold sbytes at h
    refine List.map_inj_right (f := fun c : UInt8 => (c.toNat : Int)) ?_ |>.1 h
    intro x y hxy
    exact UInt8.toNat_inj.1 (by omega)
  exact ByteArray.ext (Array.toList_inj.1 h1)
mutual
/-- What begins with an encoding is told by it. -/
theorem enc_pre (x y : It) (r q : List Int) (hx : x.okE) (hy : y.okE) (e : x.enc ++ r = y.enc ++ q) : x = y ∧ r = q := by
  obtain ⟨k, n, s, l⟩ := x
  obtain ⟨k', n', s', l'⟩ := y
  rw [It.okE] at hx hy
  rw [It.enc, It.enc, List.append_assoc, List.append_assoc, List.append_assoc, List.append_assoc] at e
  obtain ⟨h1, h2, h3, h4, h5⟩ := head_same (x := .mk k n s l) (y := .mk k' n' s' l') hx.1 hy.1 e
  simp only [It.k, It.n, It.s, It.l] at h1 h2 h3 h4
  obtain ⟨h6, h7⟩ := List.append_inj h5 (by rw [length_sbytes, length_sbytes, h3])
  obtain ⟨h8, h9⟩ := encL_pre l l' r q h4 hx.2 hy.2 h7
  exact ⟨by rw [h1, h2, sbytes_inj h6, h8], h9⟩
theorem encL_pre (a b : List It) (r q : List Int) (hl : a.length = b.length) (ha : okEL a) (hb : okEL b) (e : encL a ++ r = encL b ++ q) : a = b ∧ r = q := by
  cases a with
  | nil =>
    cases b with
    | nil => exact ⟨rfl, by simpa [encL] using e⟩
    | cons y b => simp at hl
  | cons x a =>
    cases b with
    | nil => simp at hl
    | cons y b =>
      rw [okEL] at ha hb
      rw [encL, encL, List.append_assoc, List.append_assoc] at e
      obtain ⟨h1, h2⟩ := enc_pre x y _ _ ha.1 hb.1 e
      obtain ⟨h3, h4⟩ := encL_pre a b r q (by simpa using hl) ha.2 hb.2 h2
      exact ⟨by rw [h1, h3], h4⟩
end
theorem enc_inj {x y : It} (hx : x.okE) (hy : y.okE) (e : x.enc = y.enc) : x = y := (enc_pre x y [] [] hx hy (by rw [e])).1
end Go.Proofs.YtgbbgdjdomkohaaGreat

/- bytes.Compare. -/
namespace Go.Proofs.YtgbbgdjdomkohaaGreat
open Go.RowKit

theorem byteL_back {xs : List Int} (h : ByteL xs) : (Lib.bytesOf xs).map (fun c => (c.toNat : Int)) = xs := by
  unfold Lib.bytesOf
  rw [List.map_map]
  conv => rhs; rw [← List.map_id xs]
  refine List.map_congr_left fun x hx => ?_
  have := h x hx
  simp only [Function.comp, id]
  rw [UInt8.toNat_ofNat']
  omega
theorem compare_nums {xs ys : List Int} (hx : ByteL xs) (hy : ByteL ys) : Lib.compareBytes (Lib.bytesOf xs) (Lib.bytesOf ys) = seqC intC xs ys := by
  rw [← textC_bytes, byteL_back hx, byteL_back hy]
theorem run_bytesOf {w : World} {A : Option Addr} {cap : Nat} {xs : List Int} (h : Rd w w.heap.size .u8 A xs) : (Extern.Bytes.bytesOf (.slice A xs.length cap)).run Tryz.prog w = .ok ⟨(Lib.bytesOf xs).toArray⟩ w := by
  cases A with
  | none =>
    have hx : xs = [] := by
      rcases xs with _ | ⟨x, r⟩
      · rfl
      · obtain ⟨b, o, h, _⟩ := h (by simp)
        cases h
    subst hx
    rfl
  | some a =>
    by_cases hn : xs = []
    · subst hn
      cases a
      rfl
    · obtain ⟨b, o, hA, _, hc⟩ := h (List.length_pos_iff.2 hn)
      injection hA with hA
      subst hA
      have hl := Lib.run_loadBytesX (P := Tryz.prog) w xs ⟨b, o, none⟩ .empty (fun j x hj => by
        have hjl : j < xs.length := (List.getElem?_eq_some_iff.1 hj).1
        rw [Addr.add_mid, hc j hjl, List.getD_eq_getElem?_getD, hj]
        rfl)
      show (Extern.Bytes.loadBytes ⟨b, o, none⟩ xs.length .empty).run Tryz.prog w = _
      rw [hl]
      congr 1
      apply ByteArray.ext
      show (#[] : Array UInt8) ++ (Lib.bytesOf xs).toArray = (Lib.bytesOf xs).toArray
      simp
theorem run_compareSlices {w : World} {A1 A2 : Option Addr} {c1 c2 : Nat} {xs ys : List Int} (h1 : Rd w w.heap.size .u8 A1 xs) (h2 : Rd w w.heap.size .u8 A2 ys) (hx : ByteL xs) (hy : ByteL ys) :
    (Extern.BytealgCompare.compare #[.slice A1 xs.length c1, .slice A2 ys.length c2]).run Tryz.prog w = .ok (.int .i64 (seqC intC xs ys)) w := by
  change Sem.run Tryz.prog (do pure (goInt (Extern.BytealgCompare.cmp (← Extern.Bytes.bytesOf (.slice A1 xs.length c1)) (← Extern.Bytes.bytesOf (.slice A2 ys.length c2))))) w = _
  simp only [Sem.run_bind, run_bytesOf h1, run_bytesOf h2, Sem.run_pure, Result.andThen]
  rw [Lib.cmp_eq, ← compare_nums hx hy]
  rfl
set_option maxRecDepth 100000 in
theorem bytes_compare (A1 A2 : Option Addr) (c1 c2 : Nat) (xs ys : List Int) (w : World) (h1 : Rd w w.heap.size .u8 A1 xs) (h2 : Rd w w.heap.size .u8 A2 ys) (hx : ByteL xs) (hy : ByteL ys) :
    Calls Tryz.prog 13 #[.slice A1 xs.length c1, .slice A2 ys.length c2] w fun e w' => e = .returned (.int .i64 (seqC intC xs ys)) ∧ w' = w := by
  have hr := run_compareSlices (c1 := c1) (c2 := c2) h1 h2 hx hy
  obtain ⟨z, hz⟩ : ∃ z, seqC intC xs ys = z := ⟨_, rfl⟩
  rw [hz] at hr ⊢
  have HR := Lib.hid hr
  clear hr h1 h2 hx hy hz
  go_enter Tryz.func13, Tryz.ntmps13
  go_wp2
  rw [run_callFunc_extern Tryz.func20 (by kernel_rfl) (by kernel_rfl) (by kernel_rfl) (e := Extern.BytealgCompare.compare) (by kernel_rfl), HR.out]
  simp only [Result.andThen]
  rw [Oper.upon_value]
  go_wp2
  go_ret
  exact ⟨rfl, rfl⟩
end Go.Proofs.YtgbbgdjdomkohaaGreat

/- Package order: keys in memory, its functions. -/
namespace Go.Proofs.YtgbbgdjdomkohaaGreat
open Go.RowKit

/-- Of the blocks that were there only three have turned. -/
structure Tri (g p q : Nat) (w w' : World) : Prop where
  os : w'.os = w.os
  tape : w'.tape = w.tape
  output : w'.output = w.output
  size : w.heap.size ≤ w'.heap.size
  block : ∀ i, i < w.heap.size → i ≠ g → i ≠ p → i ≠ q → w'.heap[i]? = w.heap[i]?
section
variable {g p q B : Nat} {w w' w'' : World}
theorem Tri.refl : Tri g p q w w := ⟨rfl, rfl, rfl, Nat.le_refl _, fun _ _ _ _ _ => rfl⟩
theorem Tri.trans (h : Tri g p q w w') (k : Tri g p q w' w'') : Tri g p q w w'' :=
  ⟨k.os.trans h.os, k.tape.trans h.tape, k.output.trans h.output, Nat.le_trans h.size k.size, fun i hi a b c => (k.block i (Nat.lt_of_lt_of_le hi h.size) a b c).trans (h.block i hi a b c)⟩
theorem Tri.below (h : Tri g p q w w') (hs : B ≤ w.heap.size) (a : B ≤ g) (b : B ≤ p) (c : B ≤ q) : Below B w w' :=
  ⟨h.os, h.tape, h.output, h.size, fun i hi => h.block i (by omega) (by omega) (by omega) (by omega)⟩
theorem Tri.ofBelow (h : Below w.heap.size w w') : Tri g p q w w' := ⟨h.os, h.tape, h.output, h.size, fun i hi _ _ _ => h.block i hi⟩
theorem Tri.swap (h : Tri g p q w w') : Tri g q p w w' := ⟨h.os, h.tape, h.output, h.size, fun i hi a b c => h.block i hi a c b⟩
theorem Tri.on {i : Nat} {t : TypeId} {cs : Array Value} (h : Tri g p q w w') (hb : Blk w i t cs) (a : i ≠ g) (b : i ≠ p) (c : i ≠ q) : Blk w' i t cs := (h.block i hb.lt a b c).trans hb
theorem Tri.ofG (h : Only g w w') : Tri g p q w w' := ⟨h.os, h.tape, h.output, h.size, fun i hi a _ _ => h.block i hi (fun e => a (by injection e))⟩
theorem Tri.ofQ (h : Only q w w') : Tri g p q w w' := ⟨h.os, h.tape, h.output, h.size, fun i hi _ _ a => h.block i hi (fun e => a (by injection e))⟩
end

section
variable {g p q m : Nat} {w w' : World} {a b : List Int} {e : Bool}
theorem Own.on1 {B k t n c zs} (h : Own w B k t (.slice (some ⟨g, 0, none⟩) n c) zs) (hb : w'.heap[g]? = w.heap[g]?) : Own w' B k t (.slice (some ⟨g, 0, none⟩) n c) zs := by
  obtain ⟨h1, h2⟩ := h
  refine ⟨h1, ?_⟩
  rcases h2 with h2 | ⟨g', cap, cur, hv, hg, hh, r⟩
  · exact .inl h2
  · injection hv with e1 e2 e3
    injection e1 with e1
    injection e1 with e1
    subst e1
    exact .inr ⟨g, cap, cur, by rw [e2, e3], hg, by rw [hb]; exact hh, r⟩
theorem Own.lt0 {B k t n c zs} (h : Own w B k t (.slice (some ⟨g, 0, none⟩) n c) zs) : g < w.heap.size := by
  rcases h.2 with ⟨h2, _⟩ | ⟨g', cap, cur, hv, hg, hh, r⟩
  · cases h2
  · injection hv with e1 e2 e3
    injection e1 with e1
    injection e1 with e1
    subst e1
    exact (Array.getElem?_eq_some_iff.1 hh).1
theorem Own.zero {B k t c zs n} (h : Own w B k t (.slice (some ⟨g, 0, none⟩) n c) zs) : Own w B k t (.slice (some ⟨g, 0, none⟩) 0 c) [] := by
  obtain ⟨h1, h2⟩ := h
  refine ⟨rfl, ?_⟩
  rcases h2 with ⟨h2, _⟩ | ⟨g', cap, cur, hv, hg, hh, hn, hc, hs, ht⟩
  · cases h2
  · injection hv with e1 e2 e3
    injection e1 with e1
    injection e1 with e1
    subst e1
    subst e3
    exact .inr ⟨g, c, cur, rfl, hg, hh, Nat.zero_le _, hc, hs, by simp⟩
end

/-- Is a ahead of b? -/
def ahead (a b : List Int) : Bool := decide (seqC intC a b < 0)
/-- One of an array's small parts. -/
theorem run_index_part {P : Program} {t e : TypeId} {n : Nat} {d : TypeDesc} (hu : P.underlying t = some (.array n e)) (he : P.underlying e = some d) (hd : d.isRow = false) (hs : (P.info? e).map (·.size) = some 1) (cs : Array Value) (i : Nat) (hi : i < n) (v : Value) (hx : cs[i]? = some v) (w : World) :
    (Instr.index t (.agg cs) (.int .i64 i)).run P w = .ok v w := by
  have hz : ∀ w, (sizeOf e).run P w = .ok 1 w := fun w => by
    cases hq : P.info? e with
    | none => simp [hq] at hs
    | some j =>
      have : j.size = 1 := by simpa [hq] using hs
      simp [sizeOf, typeInfo, hq, this]
  have ha : (isAgg e).run P w = .ok false w := by
    unfold isAgg
    rw [Sem.run_bind, run_underlying he w]
    cases d <;> first | rfl | simp_all [TypeDesc.isRow]
  have hi' : (asIntOf (Value.int IntKind.i64 i)).run P w = .ok (.i64, (i : Int)) w := rfl
  simp [Instr.index, run_underlying hu, hz, part, ha, hi', hx, hi]
end Go.Proofs.YtgbbgdjdomkohaaGreat

/- Insertion from the right end, plain: what the library's insertion sort comes to; keys in the order of their encodings. -/
namespace Go.Proofs.YtgbbgdjdomkohaaGreat
open Go.Sort

section
variable {α β : Type} {lt : α → α → Bool} {x : α}
/-- x put behind all that aren't greater; the list from its end. -/
def insR (lt : α → α → Bool) (x : α) : List α → List α
  | [] => [x]
  | y :: r => if lt x y then y :: insR lt x r else x :: y :: r
/-- One after the other put in, from the end. -/
def insAll (lt : α → α → Bool) (acc : List α) : List α → List α
  | [] => acc
  | x :: r => insAll lt (insR lt x acc) r
def insS (lt : α → α → Bool) (l : List α) : List α := (insAll lt [] l).reverse
theorem insR_length (l : List α) : (insR lt x l).length = l.length + 1 := by
  induction l with
  | nil => rfl
  | cons y r ih => unfold insR; split <;> simp [ih]
theorem insAll_length (l : List α) : ∀ acc, (insAll lt acc l).length = acc.length + l.length := by
  induction l with
  | nil => intro acc; rfl
  | cons x r ih => intro acc; rw [insAll, ih, insR_length, List.length_cons]; omega
theorem insS_length (l : List α) : (insS lt l).length = l.length := by rw [insS, List.length_reverse, insAll_length]; simp
theorem insAll_snoc (acc l : List α) (x : α) : insAll lt acc (l ++ [x]) = insR lt x (insAll lt acc l) := by
  induction l generalizing acc with
  | nil => rfl
  | cons y r ih => rw [List.cons_append, insAll, ih, insAll]
theorem insR_skip (p r : List α) (h : ∀ y ∈ p, lt x y = true) : insR lt x (p ++ r) = p ++ insR lt x r := by
  induction p with
  | nil => rfl
  | cons y p ih => rw [List.cons_append, insR, if_pos (h y (by simp)), ih fun z hz => h z (by simp [hz])]; rfl
theorem insR_stop (r : List α) (h : ∀ y, r.head? = some y → lt x y = false) : insR lt x r = x :: r := by
  cases r with
  | nil => rfl
  | cons y r => rw [insR, if_neg (by rw [h y rfl]; decide)]
/-- x goes to place k of a list: all behind it are greater, the one ahead of it isn't. -/
theorem insR_at (out : List α) (k : Nat) (hk : k ≤ out.length) (h1 : ∀ i y, k ≤ i → out[i]? = some y → lt x y = true) (h2 : ∀ y, 0 < k → out[k - 1]? = some y → lt x y = false) :
    (insR lt x out.reverse).reverse = out.take k ++ x :: out.drop k := by
  have e : out.reverse = (out.drop k).reverse ++ (out.take k).reverse := by rw [← List.reverse_append, List.take_append_drop]
  rw [e, insR_skip, insR_stop]
  · simp
  · intro y hy
    rw [List.head?_reverse, List.getLast?_eq_getElem?, List.length_take, Nat.min_eq_left hk] at hy
    by_cases h0 : 0 < k
    · rw [List.getElem?_take, if_pos (by omega)] at hy
      exact h2 y h0 hy
    · have : k = 0 := by omega
      subst this
      simp at hy
  · intro y hy
    rw [List.mem_reverse] at hy
    obtain ⟨i, hi⟩ := List.mem_iff_getElem?.1 hy
    rw [List.getElem?_drop] at hi
    exact h1 (k + i) y (by omega) hi
theorem insR_map {lt' : β → β → Bool} (f : α → β) (h : ∀ a b, lt a b = lt' (f a) (f b)) (l : List α) : (insR lt x l).map f = insR lt' (f x) (l.map f) := by
  induction l with
  | nil => rfl
  | cons y r ih =>
    rw [List.map_cons, insR, insR, ← h]
    split
    · rw [List.map_cons, ih]
    · rfl
theorem insAll_map {lt' : β → β → Bool} (f : α → β) (h : ∀ a b, lt a b = lt' (f a) (f b)) (l : List α) : ∀ acc, (insAll lt acc l).map f = insAll lt' (acc.map f) (l.map f) := by
  induction l with
  | nil => intro acc; rfl
  | cons x r ih => intro acc; rw [insAll, ih, List.map_cons, insAll, insR_map f h]
theorem insS_map {lt' : β → β → Bool} (f : α → β) (h : ∀ a b, lt a b = lt' (f a) (f b)) (l : List α) : (insS lt l).map f = insS lt' (l.map f) := by
  rw [insS, List.map_reverse, insAll_map f h]; rfl
end
section
variable {α : Type} [Inhabited α] {lt : α → α → Bool}
theorem arr_at (p r : List α) (x : α) : (p ++ x :: r).toArray[p.length]! = x := by
  rw [getElem!_pos _ _ (by simp)]
  simp
theorem swp_next (p r : List α) (x y : α) : swp (p ++ y :: x :: r).toArray (p.length + 1) p.length = (p ++ x :: y :: r).toArray := by
  have e1 : (p ++ y :: x :: r).toArray[p.length]! = y := arr_at p (x :: r) y
  have e2 : (p ++ y :: x :: r).toArray[p.length + 1]! = x := by
    simp
  unfold swp
  rw [e1, e2]
  apply Array.ext'
  simp
theorem insInner_list (x : α) : ∀ (q : List α) (rest : List α), insInner lt 0 q.length (q.reverse ++ x :: rest).toArray = ((insR lt x q).reverse ++ rest).toArray
  | [], rest => by simp [insInner, insR]
  | y :: q, rest => by
    have e1 : ((y :: q).reverse ++ x :: rest) = q.reverse ++ y :: x :: rest := by simp
    have a1 : (q.reverse ++ y :: x :: rest).toArray[q.length + 1]! = x := by
      simp
    have a0 : (q.reverse ++ y :: x :: rest).toArray[q.length]! = y := by
      simp
    rw [e1, List.length_cons, insInner, a1, a0]
    have hs := swp_next q.reverse rest x y
    rw [List.length_reverse] at hs
    rw [hs]
    by_cases h : lt x y = true
    · rw [if_pos (by simp [h]), insInner_list x q (y :: rest), insR, if_pos h]
      simp
    · rw [if_neg (by simp [h]), insR, if_neg h]
      simp
theorem insOuter_list (n : Nat) : ∀ (rest acc : List α), acc.length + rest.length = n → insOuter lt 0 n acc.length (acc.reverse ++ rest).toArray = (insAll lt acc rest).reverse.toArray
  | [], acc, h => by rw [insOuter_stop _ _ _ _ _ (by simp at h; omega), insAll, List.append_nil]
  | x :: rest, acc, h => by
    rw [insOuter_go _ _ _ _ _ (by simp at h; omega), insInner_list x acc rest]
    have := insOuter_list n rest (insR lt x acc) (by rw [insR_length]; simp at h; omega)
    rw [insR_length] at this
    rw [this, insAll]
/-- The library's insertion sort. -/
theorem insertionSort_list (l : List α) : insertionSort lt l.toArray 0 l.length = (insS lt l).toArray := by
  unfold insertionSort insS
  cases l with
  | nil => rw [insOuter_stop _ _ _ _ _ (by simp)]; rfl
  | cons x r =>
    have := insOuter_list (lt := lt) (r.length + 1) r [x] (by simp; omega)
    simpa [insAll, insR] using this
end
/-- A key's encoding, of a major type. -/
def codeL (m : Int) (key : ByteArray) : List Int := hlay m (leastW key.size) key.size ++ sbytes key
theorem codeL_cmp (a b : ByteArray) : seqC intC (codeL 2 a) (codeL 2 b) = seqC intC (codeL 3 a) (codeL 3 b) := by
  unfold codeL hlay
  simp only [List.cons_append, seqC]
  generalize hinf (leastW a.size) a.size = i
  generalize hinf (leastW b.size) b.size = j
  have e : intC (2 * 32 + i) (2 * 32 + j) = intC (3 * 32 + i) (3 * 32 + j) := by
    unfold intC
    simp only [Int.add_lt_add_iff_left]
  rw [e]
/-- Which of two keys goes ahead. -/
def keyLt (a b : ByteArray) : Bool := ahead (codeL 3 a) (codeL 3 b)
end Go.Proofs.YtgbbgdjdomkohaaGreat

/- Package enc: headOf. -/
namespace Go.Proofs.YtgbbgdjdomkohaaGreat
open Go.RowKit

theorem PutPost.up {w w1 w' : World} {l : List Int} {e : Ending} (S : Below w.heap.size w w1) (h : PutPost w1 l e w') : PutPost w l e w' := by
  obtain ⟨v, rfl, ho, hb⟩ := h
  exact ⟨v, rfl, ho.base S.size, S.trans (hb.mono S.size)⟩
set_option maxRecDepth 100000 in
set_option maxHeartbeats 4000000 in
theorem enc_headOf (t : It) (A : Option Addr) (cap : Nat) (w : World) (h0 : 0 ≤ t.n) (h1 : t.n < 18446744073709551616) (hs : t.s.size ≤ 1099511627776) (hl : t.l.length ≤ 1099511627776) :
    Calls Tryz.prog 38 #[vI t A cap] w fun e w' => PutPost w (hdK t.k t.n t.s.size t.l.length) e w' := by
  obtain ⟨k, n, s, l⟩ := t
  obtain ⟨w1, hw1, b1, S⟩ := iblk1 w 31 #[.int .i64 k, .int .u64 n, .string s, .slice A l.length cap]
  obtain ⟨p0, p1, p2, p3, -⟩ := iblk b1
  have HS := Lib.hid S
  simp only [vI, It.k, It.n, It.s, It.l] at *
  clear S b1
  by_cases h8 : k = 8
  · subst h8
    have C := head_PutFloat n.toNat (by omega) w1
    rw [show ((n.toNat : Nat) : Int) = n by omega] at C
    have HR : RowKit.Hid (hdK 8 n s.size l.length = fhead n.toNat) := Lib.hid (by unfold hdK; rw [if_pos rfl])
    have HC := Lib.hid C
    clear C h0 h1 hs hl
    go_enter Tryz.func38, Tryz.ntmps38
    go_wp2_with (go_at_call 52; refine HC.out.mono ?_; rintro e w2 ⟨z, k', hsh, v, rfl, ho, hb⟩; have HSH := Lib.hid hsh; have HO := Lib.hid ho; have HB := Lib.hid hb; clear hsh ho hb)
    go_ret
    rw [HR.out, fhead_of HSH.out]
    exact PutPost.up HS.out ⟨v, rfl, HO.out, HB.out⟩
  · by_cases h23 : k = 2 ∨ k = 3
    · obtain ⟨ms, hms⟩ : ∃ ms : Int, (s.size : Int) = ms := ⟨_, rfl⟩
      have hm0 : 0 ≤ ms := by omega
      have hm1 : ms < 1099511627777 := by omega
      have C := head_Put k k ms (by omega) hm0 (by omega) w1
      have HR : RowKit.Hid (hdK k n s.size l.length = hputL k ms) := Lib.hid (by unfold hdK; rw [if_neg h8, if_pos h23, hms])
      have HC := Lib.hid C
      have hms' : ((s.size : Nat) : Int) = ms := hms
      clear C h0 h1 hs hl hms
      rcases h23 with rfl | rfl
      · clear h8
        go_enter Tryz.func38, Tryz.ntmps38
        go_wp2_with (go_at_call 51; refine HC.out.mono ?_; rintro e w2 hp; obtain ⟨v, rfl, ho, hb⟩ := hp; have HO := Lib.hid ho; have HB := Lib.hid hb; clear ho hb)
        go_ret
        rw [HR.out]
        exact PutPost.up HS.out ⟨v, rfl, HO.out, HB.out⟩
      · clear h8
        go_enter Tryz.func38, Tryz.ntmps38
        go_wp2_with (go_at_call 51; refine HC.out.mono ?_; rintro e w2 hp; obtain ⟨v, rfl, ho, hb⟩ := hp; have HO := Lib.hid ho; have HB := Lib.hid hb; clear ho hb)
        go_ret
        rw [HR.out]
        exact PutPost.up HS.out ⟨v, rfl, HO.out, HB.out⟩
    · by_cases h4 : k = 4
      · subst h4
        have HR : RowKit.Hid (hdK 4 n s.size l.length = hputL 4 l.length) := Lib.hid (by unfold hdK; rw [if_neg h8, if_neg h23, if_pos rfl])
        obtain ⟨ms, hms⟩ : ∃ ms : Int, (l.length : Int) = ms := ⟨_, rfl⟩
        have hm0 : 0 ≤ ms := by omega
        have hm1 : ms < 1099511627777 := by omega
        have C := head_Put 4 4 ms (by omega) hm0 (by omega) w1
        rw [← hms] at C
        have HC := Lib.hid C
        have hl' : (l.length : Int) < 1099511627777 := by omega
        clear C h0 h1 hs hl hms h8 h23 hm0 hm1
        go_enter Tryz.func38, Tryz.ntmps38
        go_wp2_with (go_at_call 51; refine HC.out.mono ?_; rintro e w2 hp; obtain ⟨v, rfl, ho, hb⟩ := hp; have HO := Lib.hid ho; have HB := Lib.hid hb; clear ho hb)
        go_ret
        rw [HR.out]
        exact PutPost.up HS.out ⟨v, rfl, HO.out, HB.out⟩
      · by_cases h5 : k = 5
        · subst h5
          have HR : RowKit.Hid (hdK 5 n s.size l.length = hputL 5 ((l.length : Int) / 2)) := Lib.hid (by unfold hdK; rw [if_neg h8, if_neg h23, if_neg h4, if_pos rfl]; congr 1)
          have C := head_Put 5 5 ((l.length : Int) / 2) (by omega) (by omega) (by omega) w1
          have HC := Lib.hid C
          have hl' : (l.length : Int) < 1099511627777 := by omega
          clear C h0 h1 hs hl h8 h23 h4
          go_enter Tryz.func38, Tryz.ntmps38
          go_wp2_with (go_at_call 51; refine HC.out.mono ?_; rintro e w2 hp; obtain ⟨v, rfl, ho, hb⟩ := hp; have HO := Lib.hid ho; have HB := Lib.hid hb; clear ho hb)
          go_ret
          rw [HR.out]
          exact PutPost.up HS.out ⟨v, rfl, HO.out, HB.out⟩
        · have HR : RowKit.Hid (hdK k n s.size l.length = hputL (k % 8) n) := Lib.hid (by unfold hdK; rw [if_neg h8, if_neg h23, if_neg h4, if_neg h5])
          have C := head_Put k (k % 8) n rfl h0 h1 w1
          have n8 : (k == 8) = false := by simp; omega
          have n2 : (k == 2) = false := by simp; omega
          have n3 : (k == 3) = false := by simp; omega
          have n4 : (k == 4) = false := by simp; omega
          have n5 : (k == 5) = false := by simp; omega
          have HC := Lib.hid C
          clear C h0 h1 hs hl h8 h23 h4 h5
          go_enter Tryz.func38, Tryz.ntmps38
          go_wp2_with (go_at_call 51; refine HC.out.mono ?_; rintro e w2 hp; obtain ⟨v, rfl, ho, hb⟩ := hp; have HO := Lib.hid ho; have HB := Lib.hid hb; clear ho hb)
          go_ret
          rw [HR.out]
          exact PutPost.up HS.out ⟨v, rfl, HO.out, HB.out⟩
end Go.Proofs.YtgbbgdjdomkohaaGreat
