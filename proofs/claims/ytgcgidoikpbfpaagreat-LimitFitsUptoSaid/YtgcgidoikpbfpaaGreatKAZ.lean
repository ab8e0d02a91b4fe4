/- The one encoding, plain: what begins with it is it. -/
import Derived.Test.YtgcgidoikpbfpaaGreatKAN
import Derived.Test.YtgcgidoikpbfpaaGreatKAO
import Derived.Test.YtgcgidoikpbfpaaGreatKAY
namespace Go.Proofs.YtgcgidoikpbfpaaGreat

open Classical in
/-- The bytes of a float's head. -/
noncomputable def fhead (x : Nat) : List Int := if h : ∃ p : Nat × Nat, Shortest x p.1 p.2 then hlay 7 h.choose.2 h.choose.1 else []
theorem fhead_of {x z k : Nat} (h : Shortest x z k) : fhead x = hlay 7 k z := by
  unfold fhead
  have hex : ∃ p : Nat × Nat, Shortest x p.1 p.2 := ⟨(z, k), h⟩
  rw [dif_pos hex]
  obtain ⟨h1, h2⟩ := shortest_fun hex.choose_spec h
  rw [h1, h2]
/-- The head of an item. -/
noncomputable def hdK (k n : Int) (m l : Nat) : List Int :=
  if k = 8 then fhead n.toNat else if k = 2 ∨ k = 3 then hputL k m else if k = 4 then hputL 4 l else if k = 5 then hputL 5 ((l / 2 : Nat) : Int) else hputL (k % 8) n
mutual
/-- The encoding of an item whose maps are in order. -/
noncomputable def It.enc : It → List Int
  | .mk k n s l => hdK k n s.size l.length ++ (sbytes s ++ encL l)
noncomputable def encL : List It → List Int
  | [] => []
  | t :: r => t.enc ++ encL r
end
theorem It.enc_eq (t : It) : t.enc = hdK t.k t.n t.s.size t.l.length ++ (sbytes t.s ++ encL t.l) := by cases t; simp [It.enc, It.k, It.n, It.s, It.l]
theorem encL_append (a b : List It) : encL (a ++ b) = encL a ++ encL b := by
  induction a with
  | nil => simp [encL]
  | cons x r ih => simp [encL, ih]
/-- An item by itself may be, but for its text and its keys. -/
def okTop (t : It) : Prop := formB t = true ∧ rangB t = true ∧ 0 ≤ t.n ∧ t.n < 18446744073709551616 ∧ t.s.size < 18446744073709551616 ∧ t.l.length < 18446744073709551616
mutual
def It.okE : It → Prop
  | .mk k n s l => okTop (.mk k n s l) ∧ okEL l
def okEL : List It → Prop
  | [] => True
  | t :: r => t.okE ∧ okEL r
end
theorem It.okE_eq (t : It) : t.okE ↔ okTop t ∧ okEL t.l := by cases t; simp [It.okE, It.l]
theorem okEL_iff {l : List It} : okEL l ↔ ∀ t ∈ l, t.okE := by
  induction l with
  | nil => simp [okEL]
  | cons x r ih => simp [okEL, ih]

theorem hread_floatR {x z k : Nat} (r : List Int) (h : Shortest x z k) (hx : x < 2 ^ 64) : hread (hlay 7 k z ++ r) = ⟨7, k, z, (hlay 7 k z).length, -1, 0⟩ := by
  have hs : fshort (k : Int) (z : Int) = true := by
    unfold fshort
    have := (sh_wd h hx).2.2
    simpa using this
  have hk : ((k : Int) = 2 ∧ (z : Int) < 65536) ∨ ((k : Int) = 4 ∧ (z : Int) < 4294967296) ∨ (k : Int) = 8 := by
    rcases h with ⟨_, rfl, rfl⟩ | ⟨_, ⟨rfl, hw⟩ | ⟨rfl, hw, _⟩ | ⟨rfl, _⟩⟩
    · exact Or.inl ⟨rfl, by decide⟩
    · have := hw.1; exact Or.inl ⟨rfl, by omega⟩
    · have := hw.1; exact Or.inr (Or.inl ⟨rfl, by omega⟩)
    · exact Or.inr (Or.inr rfl)
  have hz : (z : Int) < 18446744073709551616 := by have := (sh_wd h hx).1; omega
  have hp : (z : Int) < 256 ^ ((k : Int)).toNat := by
    rcases hk with ⟨e, h⟩ | ⟨e, h⟩ | e <;> rw [e]
    · exact h
    · exact h
    · exact hz
  have := hread_lay 7 k z r (by decide) (by decide) (by omega) (by omega) hp (by omega)
  rw [this, hlay_length]
  unfold hlong
  have e : hshort 7 k z = true := by
    unfold hshort
    rw [if_pos ⟨rfl, by omega⟩]
    exact hs
  rw [e]
  simp only [if_true]
  congr 1
theorem shortest_ex (x : Nat) (hx : x < 2 ^ 64) : ∃ z k, Shortest x z k := by
  by_cases hn : FNan 11 52 x
  · exact ⟨_, _, .inl ⟨hn, rfl, rfl⟩⟩
  · by_cases h2 : ∃ y, Wide 5 10 1050 y x
    · obtain ⟨y, hy⟩ := h2
      exact ⟨y, 2, .inr ⟨hn, .inl ⟨rfl, hy⟩⟩⟩
    · by_cases h4 : ∃ y, Wide 8 23 925 y x
      · obtain ⟨y, hy⟩ := h4
        exact ⟨y, 4, .inr ⟨hn, .inr (.inl ⟨rfl, hy, fun y h => h2 ⟨y, h⟩⟩)⟩⟩
      · exact ⟨x, 8, .inr ⟨hn, .inr (.inr ⟨rfl, rfl, fun y h => h2 ⟨y, h⟩, fun y h => h4 ⟨y, h⟩⟩)⟩⟩
/-- A float is told by its shortest form. -/
theorem short_inj {x x' z k : Nat} (hx : x < 2 ^ 64) (hx' : x' < 2 ^ 64) (h : Shortest x z k) (h' : Shortest x' z k) (hn : FNan 11 52 x → x = 9221120237041090560) (hn' : FNan 11 52 x' → x' = 9221120237041090560) : x = x' := by
  have e := wd_fun (sh_wd h hx).2.1 (sh_wd h' hx').2.1
  by_cases a : FNan 11 52 x <;> by_cases b : FNan 11 52 x'
  · rw [hn a, hn' b]
  · rw [if_pos a, if_neg b] at e; rw [hn a, e]
  · rw [if_neg a, if_pos b] at e; rw [hn' b, e]
  · rw [if_neg a, if_neg b] at e; exact e

/-- What an item's head is read as: a major type, a width, an argument. -/
def HK (t : It) (M W a : Int) : Prop :=
  (t.k = 0 ∨ t.k = 1 ∨ t.k = 6) ∧ M = t.k ∧ a = t.n ∨ (t.k = 2 ∨ t.k = 3) ∧ M = t.k ∧ a = t.s.size ∨ t.k = 4 ∧ M = 4 ∧ a = t.l.length ∨ t.k = 5 ∧ M = 5 ∧ a = ((t.l.length / 2 : Nat) : Int) ∨
    t.k = 7 ∧ M = 7 ∧ (W = 0 ∨ W = 1) ∧ a = t.n ∨ t.k = 8 ∧ M = 7 ∧ (∃ z v : Nat, Shortest t.n.toNat z v ∧ W = v ∧ a = z)
theorem hput_ne {m a : Int} (h : m ≠ 7 ∨ a < 24 ∨ (32 ≤ a ∧ a ≤ 255)) : hputL m a ≠ [] := by
  unfold hputL
  rw [if_neg (by omega)]
  simp [hlay]
theorem leastW_not8 {a : Int} (h0 : 0 ≤ a) (h : a ≤ 255) : leastW a = 0 ∨ leastW a = 1 := by
  unfold leastW
  (repeat' split) <;> omega
/-- The kinds, and what else they ask. -/
theorem ok_kinds {t : It} (h : okTop t) : (t.k = 0 ∨ t.k = 1 ∨ t.k = 7 ∨ t.k = 8) ∧ t.s.size = 0 ∧ t.l = [] ∨ (t.k = 2 ∨ t.k = 3) ∧ t.n = 0 ∧ t.l = [] ∨ t.k = 4 ∧ t.n = 0 ∧ t.s.size = 0 ∨ t.k = 5 ∧ t.n = 0 ∧ t.s.size = 0 ∧ t.l.length % 2 = 0 ∨ t.k = 6 ∧ t.s.size = 0 ∧ t.l.length = 1 := by
  obtain ⟨hf, _⟩ := h
  unfold formB formK at hf
  have hs : t.s.toList.isEmpty = true → t.s.size = 0 := fun h => by
    have h1 := List.isEmpty_iff_length_eq_zero.1 h
    rw [ByteArray.toList_eq] at h1
    simpa using h1
  have hl : (t.l.length : Int) = 0 → t.l = [] := fun h => List.length_eq_zero_iff.1 (by omega)
  split at hf
  · rename_i hk
    simp only [Bool.and_eq_true, beq_iff_eq] at hf
    exact .inl ⟨hk, hs hf.1, hl hf.2⟩
  · split at hf
    · rename_i hk
      simp only [Bool.and_eq_true, beq_iff_eq] at hf
      exact .inr (.inl ⟨hk, hf.1, hl hf.2⟩)
    · split at hf
      · rename_i hk
        simp only [Bool.and_eq_true, beq_iff_eq] at hf
        exact .inr (.inr (.inl ⟨hk, hf.1, hs hf.2⟩))
      · split at hf
        · rename_i hk
          simp only [Bool.and_eq_true, beq_iff_eq] at hf
          exact .inr (.inr (.inr (.inl ⟨hk, hf.1.1, hs hf.1.2, by omega⟩)))
        · split at hf
          · rename_i hk
            simp only [Bool.and_eq_true, beq_iff_eq] at hf
            exact .inr (.inr (.inr (.inr ⟨hk, hs hf.1, by omega⟩)))
          · cases hf
theorem rang7 {t : It} (h : rangB t = true) (h7 : t.k = 7) : t.n < 24 ∨ (32 ≤ t.n ∧ t.n ≤ 255) := by
  unfold rangB at h
  rw [if_pos h7] at h
  exact of_decide_eq_true h
theorem rang8 {t : It} (h : rangB t = true) (h8 : t.k = 8) (h0 : 0 ≤ t.n) : FNan 11 52 t.n.toNat → t.n.toNat = 9221120237041090560 := fun hn => by
  unfold rangB at h
  rw [if_neg (by omega), if_pos h8] at h
  simp only [hn, decide_true, Bool.not_true, Bool.false_or, beq_iff_eq] at h
  rw [h]
  rfl
theorem hd_read {t : It} (h : okTop t) : ∃ M W a, (∀ r, hread (hdK t.k t.n t.s.size t.l.length ++ r) = ⟨M, W, a, (hdK t.k t.n t.s.size t.l.length).length, -1, 0⟩) ∧ HK t M W a := by
  obtain ⟨hf, hr, h0, h1, h2, h3⟩ := h
  have hk := ok_kinds ⟨hf, hr, h0, h1, h2, h3⟩
  have put : ∀ (m a : Int), 0 ≤ m → m ≤ 7 → 0 ≤ a → a < 18446744073709551616 → (m ≠ 7 ∨ a < 24 ∨ (32 ≤ a ∧ a ≤ 255)) → hdK t.k t.n t.s.size t.l.length = hputL m a → HK t m (leastW a) a →
      ∃ M W a, (∀ r, hread (hdK t.k t.n t.s.size t.l.length ++ r) = ⟨M, W, a, (hdK t.k t.n t.s.size t.l.length).length, -1, 0⟩) ∧ HK t M W a := fun m a q0 q1 q2 q3 q4 q5 q6 =>
    ⟨m, leastW a, a, fun r => by rw [q5]; exact hread_put r q0 q1 q2 q3 (hput_ne q4), q6⟩
  by_cases h8 : t.k = 8
  · obtain ⟨z, v, hs⟩ := shortest_ex t.n.toNat (by omega)
    have e : hdK t.k t.n t.s.size t.l.length = hlay 7 v z := by unfold hdK; rw [if_pos h8]; exact fhead_of hs
    exact ⟨7, v, z, fun r => by rw [e]; exact hread_floatR r hs (by omega), .inr (.inr (.inr (.inr (.inr ⟨h8, rfl, z, v, hs, rfl, rfl⟩))))⟩
  · by_cases h23 : t.k = 2 ∨ t.k = 3
    · exact put t.k t.s.size (by omega) (by omega) (by omega) (by omega) (.inl (by omega)) (by unfold hdK; rw [if_neg h8, if_pos h23]) (.inr (.inl ⟨h23, rfl, rfl⟩))
    · by_cases h4 : t.k = 4
      · exact put 4 t.l.length (by omega) (by omega) (by omega) (by omega) (.inl (by omega)) (by unfold hdK; rw [if_neg h8, if_neg h23, if_pos h4]) (.inr (.inr (.inl ⟨h4, rfl, rfl⟩)))
      · by_cases h5 : t.k = 5
        · exact put 5 ((t.l.length / 2 : Nat) : Int) (by omega) (by omega) (by omega) (by omega) (.inl (by omega)) (by unfold hdK; rw [if_neg h8, if_neg h23, if_neg h4, if_pos h5]) (.inr (.inr (.inr (.inl ⟨h5, rfl, rfl⟩))))
        · have hb : hdK t.k t.n t.s.size t.l.length = hputL (t.k % 8) t.n := by unfold hdK; rw [if_neg h8, if_neg h23, if_neg h4, if_neg h5]
          have hkk : t.k = 0 ∨ t.k = 1 ∨ t.k = 7 ∨ t.k = 6 := by
            rcases hk with ⟨h, _⟩ | ⟨h, _⟩ | ⟨h, _⟩ | ⟨h, _⟩ | ⟨h, _⟩ <;> omega
          have hm : t.k % 8 = t.k := by omega
          rw [hm] at hb
          by_cases h7 : t.k = 7
          · have hg := rang7 hr h7
            rw [h7] at hb
            exact put 7 t.n (by omega) (by omega) h0 h1 (.inr hg) (by rw [h7]; exact hb) (.inr (.inr (.inr (.inr (.inl ⟨h7, rfl, leastW_not8 h0 (by omega), rfl⟩)))))
          · exact put t.k t.n (by omega) (by omega) h0 h1 (.inl h7) hb (.inl ⟨by omega, rfl, rfl⟩)
theorem head_same {x y : It} (hx : okTop x) (hy : okTop y) {r q : List Int} (e : hdK x.k x.n x.s.size x.l.length ++ r = hdK y.k y.n y.s.size y.l.length ++ q) : x.k = y.k ∧ x.n = y.n ∧ x.s.size = y.s.size ∧ x.l.length = y.l.length ∧ r = q := by
  obtain ⟨M, W, a, h1, h2⟩ := hd_read hx
  obtain ⟨M', W', a', h1', h2'⟩ := hd_read hy
  have g := h1 r
  rw [e, h1' q] at g
  injection g with g1 g2 g3 g4 g5 g6
  subst g1 g2 g3
  have hrq : r = q := (List.append_inj e (by omega)).2
  have kx := ok_kinds hx
  have ky := ok_kinds hy
  obtain ⟨_, rx, x0, x1, _, _⟩ := hx
  obtain ⟨_, ry, y0, y1, _, _⟩ := hy
  have nil0 : ∀ {t : It}, t.l = [] → t.l.length = 0 := fun h => by rw [h]; rfl
  have key : x.k = y.k ∧ x.n = y.n ∧ x.s.size = y.s.size ∧ x.l.length = y.l.length := by
    have fx : (x.k = 0 ∨ x.k = 1 ∨ x.k = 7 ∨ x.k = 8) ∧ x.s.size = 0 ∧ x.l.length = 0 ∨ (x.k = 2 ∨ x.k = 3) ∧ x.n = 0 ∧ x.l.length = 0 ∨ x.k = 4 ∧ x.n = 0 ∧ x.s.size = 0 ∨ x.k = 5 ∧ x.n = 0 ∧ x.s.size = 0 ∧ x.l.length % 2 = 0 ∨ x.k = 6 ∧ x.s.size = 0 ∧ x.l.length = 1 := by
      rcases kx with ⟨a1, a2, a3⟩ | ⟨a1, a2, a3⟩ | h | h | h
      · exact .inl ⟨a1, a2, nil0 a3⟩
      · exact .inr (.inl ⟨a1, a2, nil0 a3⟩)
      · exact .inr (.inr (.inl h))
      · exact .inr (.inr (.inr (.inl h)))
      · exact .inr (.inr (.inr (.inr h)))
    have fy : (y.k = 0 ∨ y.k = 1 ∨ y.k = 7 ∨ y.k = 8) ∧ y.s.size = 0 ∧ y.l.length = 0 ∨ (y.k = 2 ∨ y.k = 3) ∧ y.n = 0 ∧ y.l.length = 0 ∨ y.k = 4 ∧ y.n = 0 ∧ y.s.size = 0 ∨ y.k = 5 ∧ y.n = 0 ∧ y.s.size = 0 ∧ y.l.length % 2 = 0 ∨ y.k = 6 ∧ y.s.size = 0 ∧ y.l.length = 1 := by
      rcases ky with ⟨a1, a2, a3⟩ | ⟨a1, a2, a3⟩ | h | h | h
      · exact .inl ⟨a1, a2, nil0 a3⟩
      · exact .inr (.inl ⟨a1, a2, nil0 a3⟩)
      · exact .inr (.inr (.inl h))
      · exact .inr (.inr (.inr (.inl h)))
      · exact .inr (.inr (.inr (.inr h)))
    by_cases h8 : x.k = 8 ∧ y.k = 8
    · have hn : x.n = y.n := by
        rcases h2 with ⟨h, _⟩ | ⟨h, _⟩ | ⟨h, _⟩ | ⟨h, _⟩ | ⟨h, _⟩ | ⟨_, _, z, v, hs, hW, ha⟩ <;> first | omega | skip
        rcases h2' with ⟨h, _⟩ | ⟨h, _⟩ | ⟨h, _⟩ | ⟨h, _⟩ | ⟨h, _⟩ | ⟨_, _, z', v', hs', hW', ha'⟩ <;> first | omega | skip
        obtain rfl : z = z' := by omega
        obtain rfl : v = v' := by omega
        have := short_inj (by omega) (by omega) hs hs' (rang8 rx h8.1 x0) (rang8 ry h8.2 y0)
        omega
      omega
    · have w2 : ∀ {t : It} {M W a : Int}, HK t M W a → (t.k = 0 ∨ t.k = 1 ∨ t.k = 6) ∧ M = t.k ∧ a = t.n ∨ (t.k = 2 ∨ t.k = 3) ∧ M = t.k ∧ a = t.s.size ∨ t.k = 4 ∧ M = 4 ∧ a = t.l.length ∨ t.k = 5 ∧ M = 5 ∧ a = ((t.l.length / 2 : Nat) : Int) ∨
          t.k = 7 ∧ M = 7 ∧ (W = 0 ∨ W = 1) ∧ a = t.n ∨ t.k = 8 ∧ M = 7 ∧ 2 ≤ W := fun h => by
        rcases h with h | h | h | h | h | ⟨h1, h2, z, v, hs, hW, _⟩
        · exact .inl h
        · exact .inr (.inl h)
        · exact .inr (.inr (.inl h))
        · exact .inr (.inr (.inr (.inl h)))
        · exact .inr (.inr (.inr (.inr (.inl h))))
        · exact .inr (.inr (.inr (.inr (.inr ⟨h1, h2, by have := sh_wid hs; omega⟩))))
      have g2 := w2 h2
      have g2' := w2 h2'
      clear h2 h2' w2 kx ky rx ry nil0 h1 h1' e g4
      omega
  exact ⟨key.1, key.2.1, key.2.2.1, key.2.2.2, hrq⟩
theorem sbytes_inj {a b : ByteArray} (h : sbytes a = sbytes b) : a = b := by
  have h1 : a.data.toList = b.data.toList := by
    unfold sbytes at h
    refine List.map_inj_right (f := fun c : UInt8 => (c.toNat : Int)) ?_ |>.1 h
    intro x y hxy
    exact UInt8.toNat_inj.1 (by omega)
  exact ByteArray.ext (Array.toList_inj.1 h1)
mutual
/-- What begins with an encoding is told by it. -/
theorem enc_pre (x y : It) (r q : List Int) (hx : x.okE) (hy : y.okE) (e : x.enc ++ r = y.enc ++ q) : x = y ∧ r = q := by
  obtain ⟨k, n, s, l⟩ := x
  obtain ⟨k', n', s', l'⟩ := y
  rw [It.okE] at hx hy
  rw [It.enc, It.enc, List.append_assoc, List.append_assoc, List.append_assoc, List.append_assoc] at e
  obtain ⟨h1, h2, h3, h4, h5⟩ := head_same (x := .mk k n s l) (y := .mk k' n' s' l') hx.1 hy.1 e
  simp only [It.k, It.n, It.s, It.l] at h1 h2 h3 h4
  obtain ⟨h6, h7⟩ := List.append_inj h5 (by rw [length_sbytes, length_sbytes, h3])
  obtain ⟨h8, h9⟩ := encL_pre l l' r q h4 hx.2 hy.2 h7
  exact ⟨by rw [h1, h2, sbytes_inj h6, h8], h9⟩
theorem encL_pre (a b : List It) (r q : List Int) (hl : a.length = b.length) (ha : okEL a) (hb : okEL b) (e : encL a ++ r = encL b ++ q) : a = b ∧ r = q := by
  cases a with
  | nil =>
    cases b with
    | nil => exact ⟨rfl, by simpa [encL] using e⟩
    | cons y b => simp at hl
  | cons x a =>
    cases b with
    | nil => simp at hl
    | cons y b =>
      rw [okEL] at ha hb
      rw [encL, encL, List.append_assoc, List.append_assoc] at e
      obtain ⟨h1, h2⟩ := enc_pre x y _ _ ha.1 hb.1 e
      obtain ⟨h3, h4⟩ := encL_pre a b r q (by simpa using hl) ha.2 hb.2 h2
      exact ⟨by rw [h1, h3], h4⟩
end
theorem enc_inj {x y : It} (hx : x.okE) (hy : y.okE) (e : x.enc = y.enc) : x = y := (enc_pre x y [] [] hx hy (by rw [e])).1
end Go.Proofs.YtgcgidoikpbfpaaGreat
