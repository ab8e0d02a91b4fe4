/- Sets of numbers from 0 to 255, plain: one number, its bits the set's; its four words; how many bits stand, by OnesCount64's steps. -/
import Derived.Test.YtmihoeholcaokaaKAA
namespace Go.Proofs.Ytmihoeholcaokaa
open Go.RowKit

/-- How many of the first n bits stand. -/
def pcn (x : Nat) : Nat → Nat
  | 0 => 0
  | n + 1 => pcn x n + (x.testBit n).toNat
theorem and_byte (h l M c : Nat) (hl : l < 256) (hc : c < 256) : (h * 256 + l) &&& (M * 256 + c) = (h &&& M) * 256 + (l &&& c) := by
  have e : ∀ a b, b < 256 → (a * 256 + b) = 2 ^ 8 * a + b := fun a b _ => by omega
  rw [e h l hl, e M c hc]
  apply Nat.eq_of_testBit_eq
  intro i
  rw [e _ _ (Nat.lt_of_le_of_lt Nat.and_le_left hl), Nat.testBit_and, Nat.testBit_two_pow_mul_add _ hl, Nat.testBit_two_pow_mul_add _ hc, Nat.testBit_two_pow_mul_add _ (Nat.lt_of_le_of_lt Nat.and_le_left hl)]
  split <;> simp [Nat.testBit_and]
theorem low55 : ∀ h2, h2 < 2 → ∀ l, l < 256 → (h2 * 128 + l / 2) &&& 85 = (l / 2) &&& 85 := by decide +kernel
theorem low33 : ∀ h2, h2 < 4 → ∀ l, l < 256 → (h2 * 64 + l / 4) &&& 51 = (l / 4) &&& 51 := by decide +kernel
theorem low0f : ∀ h2, h2 < 5 → ∀ l, l < 69 → (h2 * 16 + l / 16 + l) &&& 15 = (l / 16 + l) &&& 15 ∧ h2 * 16 + l / 16 + l < 256 := by decide +kernel
def pg1 (M x : Nat) : Nat := ((x / 2) &&& M) + (x &&& M)
def pg2 (M x : Nat) : Nat := ((x / 4) &&& M) + (x &&& M)
def pg3 (M x : Nat) : Nat := (x / 16 + x) &&& M
theorem pg1_step (M h l : Nat) (hl : l < 256) : pg1 (M * 256 + 85) (h * 256 + l) = pg1 M h * 256 + pg1 85 l := by
  unfold pg1
  rw [show (h * 256 + l) / 2 = (h / 2) * 256 + ((h % 2) * 128 + l / 2) by omega, and_byte _ _ _ _ (by omega) (by decide), and_byte _ _ _ _ hl (by decide), low55 _ (by omega) _ hl]
  omega
theorem pg2_step (M h l : Nat) (hl : l < 256) : pg2 (M * 256 + 51) (h * 256 + l) = pg2 M h * 256 + pg2 51 l := by
  unfold pg2
  rw [show (h * 256 + l) / 4 = (h / 4) * 256 + ((h % 4) * 64 + l / 4) by omega, and_byte _ _ _ _ (by omega) (by decide), and_byte _ _ _ _ hl (by decide), low33 _ (by omega) _ hl]
  omega
theorem pg3_step (M h l : Nat) (hl : l < 69) (hh : h % 16 < 5) : pg3 (M * 256 + 15) (h * 256 + l) = pg3 M h * 256 + pg3 15 l := by
  unfold pg3
  obtain ⟨e1, e2⟩ := low0f _ hh _ hl
  rw [show (h * 256 + l) / 16 + (h * 256 + l) = (h / 16 + h) * 256 + ((h % 16) * 16 + l / 16 + l) by omega, and_byte _ _ _ _ e2 (by decide), e1]
theorem pb1 : ∀ l, l < 256 → pg1 85 l < 256 ∧ pg2 51 (pg1 85 l) < 69 ∧ pg2 51 (pg1 85 l) % 16 < 5 ∧ pg3 15 (pg2 51 (pg1 85 l)) = pcn l 8 := by decide +kernel
theorem mod_pg2 (M h : Nat) (m : Nat) (hM : M = m * 256 + 51) (K : Nat) (k : Nat) (hK : K = k * 256 + 85) : pg2 M (pg1 K h) % 16 < 5 := by
  subst hM hK
  have e : h = (h / 256) * 256 + h % 256 := by omega
  rw [e, pg1_step _ _ _ (by omega), pg2_step _ _ _ (pb1 _ (by omega)).1]
  have := (pb1 (h % 256) (by omega)).2.2.1
  omega
/-- The three steps of a word, byte by byte. -/
def pg (n : Nat) (x : Nat) : Nat := 
  let K := 85 * ((256 ^ n - 1) / 255)
  pg3 (15 * ((256 ^ n - 1) / 255)) (pg2 (51 * ((256 ^ n - 1) / 255)) (pg1 K x))
theorem prep (n : Nat) : (256 ^ (n + 1) - 1) / 255 = ((256 ^ n - 1) / 255) * 256 + 1 := by
  have : ∀ n, ∃ q, 256 ^ n = 255 * q + 1 := fun n => by
    induction n with
    | zero => exact ⟨0, rfl⟩
    | succ n ih => obtain ⟨q, hq⟩ := ih; exact ⟨256 * q + 1, by rw [Nat.pow_succ, hq]; omega⟩
  obtain ⟨q, hq⟩ := this n
  rw [Nat.pow_succ, hq]
  omega
theorem pg_step (n h l : Nat) (hl : l < 256) : pg (n + 2) (h * 256 + l) = pg (n + 1) h * 256 + pcn l 8 := by
  unfold pg
  rw [prep (n + 1)]
  obtain ⟨q, hq⟩ : ∃ q, (256 ^ n - 1) / 255 = q := ⟨_, rfl⟩
  rw [prep n, hq]
  dsimp only
  obtain ⟨e1, e2, e3, e4⟩ := pb1 l hl
  rw [show 85 * ((q * 256 + 1) * 256 + 1) = (85 * (q * 256 + 1)) * 256 + 85 by omega, show 51 * ((q * 256 + 1) * 256 + 1) = (51 * (q * 256 + 1)) * 256 + 51 by omega, show 15 * ((q * 256 + 1) * 256 + 1) = (15 * (q * 256 + 1)) * 256 + 15 by omega]
  rw [pg1_step _ _ _ hl, pg2_step _ _ _ e1, pg3_step _ _ _ e2 (mod_pg2 _ _ (51 * q) (by omega) _ (85 * q) (by omega)), e4]
theorem pg_one (l : Nat) (hl : l < 256) : pg 1 l = pcn l 8 := (pb1 l hl).2.2.2
theorem pcn_le (x : Nat) : ∀ n, pcn x n ≤ n
  | 0 => Nat.le_refl _
  | n + 1 => by have := pcn_le x n; have : (x.testBit n).toNat ≤ 1 := by cases x.testBit n <;> decide
                unfold pcn; omega
theorem pcn_low (h l : Nat) (hl : l < 256) : ∀ n, n ≤ 8 → pcn (h * 256 + l) n = pcn l n
  | 0, _ => rfl
  | n + 1, hn => by
    unfold pcn
    rw [pcn_low h l hl n (by omega), show h * 256 + l = 2 ^ 8 * h + l by omega, Nat.testBit_two_pow_mul_add _ hl, if_pos (by omega)]
theorem pcn_up (h l : Nat) (hl : l < 256) : ∀ n, pcn (h * 256 + l) (8 + n) = pcn l 8 + pcn h n
  | 0 => pcn_low h l hl 8 (Nat.le_refl _)
  | n + 1 => by
    show pcn (h * 256 + l) (8 + n) + _ = pcn l 8 + (pcn h n + _)
    have e : Nat.add 8 n = 8 + n := rfl
    rw [pcn_up h l hl n, show h * 256 + l = 2 ^ 8 * h + l by omega, e, Nat.testBit_two_pow_mul_add _ hl, if_neg (by omega), show 8 + n - 8 = n by omega]
    omega
theorem fin8 (p0 p1 p2 p3 p4 p5 p6 p7 : Nat) (h0 : p0 ≤ 8) (h1 : p1 ≤ 8) (h2 : p2 ≤ 8) (h3 : p3 ≤ 8) (h4 : p4 ≤ 8) (h5 : p5 ≤ 8) (h6 : p6 ≤ 8) (h7 : p7 ≤ 8) :
    let z := ((((((p7 * 256 + p6) * 256 + p5) * 256 + p4) * 256 + p3) * 256 + p2) * 256 + p1) * 256 + p0
    (z + z / 256 + (z + z / 256) / 65536 + (z + z / 256 + (z + z / 256) / 65536) / 4294967296) % 128 = p0 + (p1 + (p2 + (p3 + (p4 + (p5 + (p6 + p7)))))) ∧ z + z / 256 + (z + z / 256) / 65536 + (z + z / 256 + (z + z / 256) / 65536) / 4294967296 < 2 ^ 63 := by
  intro z
  obtain ⟨z1, hz1⟩ : ∃ z1, (((((p7 * 256 + p6) * 256 + p5) * 256 + p4) * 256 + p3) * 256 + p2) * 256 + p1 = z1 := ⟨_, rfl⟩
  have e1 : z = 256 * z1 + p0 := by rw [← hz1, Nat.mul_comm 256]
  have q1 : z / 256 = z1 := by omega
  obtain ⟨a2, ha2⟩ : ∃ a2, ((((p7 * 256 + (p6 + p7)) * 256 + (p5 + p6)) * 256 + (p4 + p5)) * 256 + (p3 + p4)) * 256 + (p2 + p3) = a2 := ⟨_, rfl⟩
  have e2 : z + z1 = 65536 * a2 + 256 * (p1 + p2) + (p0 + p1) := by rw [e1]; rw [← hz1, ← ha2]; clear e1 q1 hz1 ha2; omega
  have q2 : (z + z1) / 65536 = a2 := by clear e1 q1 hz1 ha2; omega
  obtain ⟨b4, hb4⟩ : ∃ b4, ((p7 * 256 + (p6 + p7)) * 256 + (p5 + p6 + p7)) * 256 + (p4 + p5 + p6 + p7) = b4 := ⟨_, rfl⟩
  have e3 : z + z1 + a2 = 4294967296 * b4 + 16777216 * (p3 + p4 + p5 + p6) + 65536 * (p2 + p3 + p4 + p5) + 256 * (p1 + p2 + p3 + p4) + (p0 + p1 + p2 + p3) := by rw [e2, ← ha2, ← hb4]; clear e1 q1 hz1 ha2 e2 q2 hb4; omega
  have q3 : (z + z1 + a2) / 4294967296 = b4 := by clear e1 q1 hz1 ha2 e2 q2 hb4; omega
  have lb : b4 ≤ 1000000000 := by rw [← hb4]; clear e1 q1 hz1 ha2 e2 q2 hb4 e3 q3; omega
  have mb : b4 % 128 = (p4 + p5 + p6 + p7) % 128 := by rw [← hb4]; clear e1 q1 hz1 ha2 e2 q2 hb4 e3 q3 lb; omega
  rw [q1, q2, q3, e3]
  clear e1 q1 hz1 ha2 e2 q2 hb4 e3 q3
  clear z
  refine ⟨?_, by omega⟩
  omega
/-- OnesCount64, by its steps. -/
def ones64 (x : Nat) : Nat :=
  let z := pg 8 x
  let a := z + z / 256
  let b := a + a / 65536
  let c := b + b / 4294967296
  c % 128
theorem ones64_pc (x : Nat) (hx : x < 2 ^ 64) : ones64 x = pcn x 64 ∧ pg 8 x + pg 8 x / 256 + (pg 8 x + pg 8 x / 256) / 65536 + (pg 8 x + pg 8 x / 256 + (pg 8 x + pg 8 x / 256) / 65536) / 4294967296 < 2 ^ 63 := by
  obtain ⟨h1, l0, e0, k0⟩ : ∃ h l, x = h * 256 + l ∧ l < 256 := ⟨x / 256, x % 256, by omega, by omega⟩
  obtain ⟨h2, l1, e1, k1⟩ : ∃ h l, h1 = h * 256 + l ∧ l < 256 := ⟨h1 / 256, h1 % 256, by omega, by omega⟩
  obtain ⟨h3, l2, e2, k2⟩ : ∃ h l, h2 = h * 256 + l ∧ l < 256 := ⟨h2 / 256, h2 % 256, by omega, by omega⟩
  obtain ⟨h4, l3, e3, k3⟩ : ∃ h l, h3 = h * 256 + l ∧ l < 256 := ⟨h3 / 256, h3 % 256, by omega, by omega⟩
  obtain ⟨h5, l4, e4, k4⟩ : ∃ h l, h4 = h * 256 + l ∧ l < 256 := ⟨h4 / 256, h4 % 256, by omega, by omega⟩
  obtain ⟨h6, l5, e5, k5⟩ : ∃ h l, h5 = h * 256 + l ∧ l < 256 := ⟨h5 / 256, h5 % 256, by omega, by omega⟩
  obtain ⟨l7, l6, e6, k6⟩ : ∃ h l, h6 = h * 256 + l ∧ l < 256 := ⟨h6 / 256, h6 % 256, by omega, by omega⟩
  have k7 : l7 < 256 := by omega
  have eg : pg 8 x = ((((((pcn l7 8 * 256 + pcn l6 8) * 256 + pcn l5 8) * 256 + pcn l4 8) * 256 + pcn l3 8) * 256 + pcn l2 8) * 256 + pcn l1 8) * 256 + pcn l0 8 := by
    rw [e0, pg_step 6 _ _ k0, e1, pg_step 5 _ _ k1, e2, pg_step 4 _ _ k2, e3, pg_step 3 _ _ k3, e4, pg_step 2 _ _ k4, e5, pg_step 1 _ _ k5, e6, pg_step 0 _ _ k6, pg_one _ k7]
  have ep : pcn x 64 = pcn l0 8 + (pcn l1 8 + (pcn l2 8 + (pcn l3 8 + (pcn l4 8 + (pcn l5 8 + (pcn l6 8 + pcn l7 8)))))) := by
    rw [e0, pcn_up _ _ k0 56, e1, pcn_up _ _ k1 48, e2, pcn_up _ _ k2 40, e3, pcn_up _ _ k3 32, e4, pcn_up _ _ k4 24, e5, pcn_up _ _ k5 16, e6, pcn_up _ _ k6 8]
  unfold ones64
  rw [eg, ep]
  have := pcn_le l0 8
  have := pcn_le l1 8
  have := pcn_le l2 8
  have := pcn_le l3 8
  have := pcn_le l4 8
  have := pcn_le l5 8
  have := pcn_le l6 8
  have := pcn_le l7 8
  generalize pcn l0 8 = p0 at *
  generalize pcn l1 8 = p1 at *
  generalize pcn l2 8 = p2 at *
  generalize pcn l3 8 = p3 at *
  generalize pcn l4 8 = p4 at *
  generalize pcn l5 8 = p5 at *
  generalize pcn l6 8 = p6 at *
  generalize pcn l7 8 = p7 at *
  clear eg ep e0 e1 e2 e3 e4 e5 e6
  dsimp only
  have fin := fin8 p0 p1 p2 p3 p4 p5 p6 p7 (by omega) (by omega) (by omega) (by omega) (by omega) (by omega) (by omega) (by omega)
  exact fin

/-- A set's word. -/
def wd (B k : Nat) : Nat := B / 2 ^ (64 * k) % 2 ^ 64
theorem wd_lt (B k : Nat) : wd B k < 2 ^ 64 := Nat.mod_lt _ (by decide)
theorem wd_test (B k j : Nat) (hj : j < 64) : (wd B k).testBit j = B.testBit (64 * k + j) := by
  unfold wd
  rw [Nat.testBit_mod_two_pow, Nat.testBit_div_two_pow]
  simp [hj, Nat.add_comm]
theorem wd_out (B k j : Nat) (hj : 64 ≤ j) : (wd B k).testBit j = false := Nat.testBit_lt_two_pow (Nat.lt_of_lt_of_le (wd_lt B k) (Nat.pow_le_pow_right (by decide) hj))
theorem wd_by (B k x : Nat) (hx : x < 2 ^ 64) (h : ∀ j, j < 64 → x.testBit j = B.testBit (64 * k + j)) : x = wd B k := by
  apply Nat.eq_of_testBit_eq
  intro j
  by_cases hj : j < 64
  · rw [wd_test _ _ _ hj, h j hj]
  · rw [wd_out _ _ _ (by omega), Nat.testBit_lt_two_pow (Nat.lt_of_lt_of_le hx (Nat.pow_le_pow_right (by decide) (by omega)))]
theorem wd_or (A B k : Nat) : wd A k ||| wd B k = wd (A ||| B) k := wd_by _ _ _ (Nat.or_lt_two_pow (wd_lt A k) (wd_lt B k)) fun j hj => by rw [Nat.testBit_or, Nat.testBit_or, wd_test _ _ _ hj, wd_test _ _ _ hj]
theorem wd_and (A B k : Nat) : wd A k &&& wd B k = wd (A &&& B) k := wd_by _ _ _ (Nat.lt_of_le_of_lt Nat.and_le_left (wd_lt A k)) fun j hj => by rw [Nat.testBit_and, Nat.testBit_and, wd_test _ _ _ hj, wd_test _ _ _ hj]
theorem wd_with (B k j : Nat) (hj : j < 64) : wd B k ||| 2 ^ j = wd (B ||| 2 ^ (64 * k + j)) k := wd_by _ _ _ (Nat.or_lt_two_pow (wd_lt B k) (Nat.pow_lt_pow_right (by decide) hj)) fun i hi => by
  rw [Nat.testBit_or, Nat.testBit_or, wd_test _ _ _ hi, Nat.testBit_two_pow, Nat.testBit_two_pow]
  congr 1
  by_cases h : j = i
  · subst h; simp
  · simp [h]
theorem wd_else (B k n : Nat) (h : n / 64 ≠ k) : wd (B ||| 2 ^ n) k = wd B k := (wd_by _ _ _ (wd_lt B k) fun j hj => by
  rw [wd_test _ _ _ hj, Nat.testBit_or, Nat.testBit_two_pow, decide_eq_false (by omega), Bool.or_false]).symm
theorem wd_ext {A B : Nat} (hA : A < 2 ^ 256) (hB : B < 2 ^ 256) (h0 : wd A 0 = wd B 0) (h1 : wd A 1 = wd B 1) (h2 : wd A 2 = wd B 2) (h3 : wd A 3 = wd B 3) : A = B := by
  apply Nat.eq_of_testBit_eq
  intro n
  by_cases hn : n < 256
  · have e : 64 * (n / 64) + n % 64 = n := by omega
    have hk : ∀ k, n / 64 = k → wd A k = wd B k → A.testBit n = B.testBit n := fun k e1 h => by
      rw [← e, e1, ← wd_test A k _ (by omega), h, wd_test B k _ (by omega)]
    rcases (by omega : n / 64 = 0 ∨ n / 64 = 1 ∨ n / 64 = 2 ∨ n / 64 = 3) with e1 | e1 | e1 | e1
    · exact hk 0 e1 h0
    · exact hk 1 e1 h1
    · exact hk 2 e1 h2
    · exact hk 3 e1 h3
  · rw [Nat.testBit_lt_two_pow (Nat.lt_of_lt_of_le hA (Nat.pow_le_pow_right (by decide) (by omega))), Nat.testBit_lt_two_pow (Nat.lt_of_lt_of_le hB (Nat.pow_le_pow_right (by decide) (by omega)))]
theorem wd_bit (B k j : Nat) (hj : j < 64) : wd B k / 2 ^ j % 2 = (B.testBit (64 * k + j)).toNat := by
  rw [← wd_test B k j hj, Nat.toNat_testBit]
theorem pcn_wd (B k : Nat) : ∀ n, n ≤ 64 → pcn B (64 * k + n) = pcn B (64 * k) + pcn (wd B k) n
  | 0, _ => rfl
  | n + 1, hn => by
    show pcn B (64 * k + n) + _ = _ + (_ + _)
    rw [pcn_wd B k n (by omega), wd_test _ _ _ (by omega)]
    show _ + (B.testBit (64 * k + n)).toNat = _
    omega
theorem pcn_all (B : Nat) : pcn B 256 = pcn (wd B 0) 64 + pcn (wd B 1) 64 + pcn (wd B 2) 64 + pcn (wd B 3) 64 := by
  rw [show (256 : Nat) = 64 * 3 + 64 from rfl, pcn_wd B 3 64 (Nat.le_refl _), show (64 * 3 : Nat) = 64 * 2 + 64 from rfl, pcn_wd B 2 64 (Nat.le_refl _), show (64 * 2 : Nat) = 64 * 1 + 64 from rfl, pcn_wd B 1 64 (Nat.le_refl _), show (64 * 1 : Nat) = 64 * 0 + 64 from rfl, pcn_wd B 0 64 (Nat.le_refl _)]
  show 0 + _ + _ + _ + _ = _
  omega
/-- What is in the set. -/
def hasB (B : Nat) (n : Int) : Bool := decide (0 ≤ n) && (decide (n < 256) && B.testBit n.toNat)
def withB (B : Nat) (n : Int) : Nat := if 0 ≤ n ∧ n < 256 then B ||| 2 ^ n.toNat else B
def ofB' (l : List Int) : Nat := l.foldl withB 0
theorem withB_lt {B : Nat} (h : B < 2 ^ 256) (n : Int) : withB B n < 2 ^ 256 := by
  unfold withB
  split
  · exact Nat.or_lt_two_pow h (Nat.pow_lt_pow_right (by decide) (by omega))
  · exact h
theorem foldB_lt : ∀ (l : List Int) (B : Nat), B < 2 ^ 256 → l.foldl withB B < 2 ^ 256
  | [], _, h => h
  | x :: l, _, h => foldB_lt l _ (withB_lt h x)
theorem hasB_with (B : Nat) (n i : Int) : hasB (withB B n) i = (hasB B i || (decide (0 ≤ i) && (decide (i < 256) && decide (i = n)))) := by
  unfold withB
  split
  · next h =>
    unfold hasB
    rw [Nat.testBit_or, Nat.testBit_two_pow]
    by_cases h0 : 0 ≤ i
    · have e : decide (n.toNat = i.toNat) = decide (i = n) := by
        by_cases e : i = n
        · subst e; simp
        · rw [decide_eq_false e, decide_eq_false (by omega)]
      rw [e]
      cases decide (0 ≤ i) <;> cases decide (i < 256) <;> simp
    · simp [h0]
  · next h =>
    have : (decide (0 ≤ i) && (decide (i < 256) && decide (i = n))) = false := by
      by_cases e : i = n
      · subst e
        by_cases h0 : 0 ≤ i
        · rw [decide_eq_false (p := i < 256) (fun h1 => h ⟨h0, h1⟩)]; simp
        · simp [h0]
      · simp [e]
    rw [this, Bool.or_false]
theorem hasB_fold (i : Int) : ∀ (l : List Int) (B : Nat), hasB (l.foldl withB B) i = (hasB B i || (decide (0 ≤ i) && (decide (i < 256) && decide (i ∈ l))))
  | [], _ => by simp
  | x :: l, B => by
    show hasB (l.foldl withB (withB B x)) i = _
    rw [hasB_fold i l, hasB_with]
    by_cases e : i = x
    · subst e
      rw [decide_eq_true (p := i = i) rfl, decide_eq_true (p := i ∈ i :: l) (by simp)]
      cases hasB B i <;> cases decide (0 ≤ i) <;> cases decide (i < 256) <;> cases decide (i ∈ l) <;> rfl
    · rw [decide_eq_false e, show decide (i ∈ x :: l) = decide (i ∈ l) by simp [e]]
      cases hasB B i <;> cases decide (0 ≤ i) <;> cases decide (i < 256) <;> cases decide (i ∈ l) <;> rfl
theorem hasB_of (l : List Int) (i : Int) : hasB (ofB' l) i = (decide (0 ≤ i) && (decide (i < 256) && decide (i ∈ l))) := by
  unfold ofB'
  rw [hasB_fold, show hasB 0 i = false by simp [hasB], Bool.false_or]
theorem hasB_or (A B : Nat) (i : Int) : hasB (A ||| B) i = (hasB A i || hasB B i) := by
  unfold hasB
  rw [Nat.testBit_or]
  cases decide (0 ≤ i) <;> cases decide (i < 256) <;> simp
theorem hasB_and (A B : Nat) (i : Int) : hasB (A &&& B) i = (hasB A i && hasB B i) := by
  unfold hasB
  rw [Nat.testBit_and]
  cases decide (0 ≤ i) <;> cases decide (i < 256) <;> simp
theorem hasB_nat (B n : Nat) (hn : n < 256) : hasB B (n : Int) = B.testBit n := by
  unfold hasB
  rw [decide_eq_true (by omega), decide_eq_true (by omega)]
  simp
/-- Its cells. -/
def setC (B : Nat) : Array Value := #[.int .u64 (wd B 0 : Nat), .int .u64 (wd B 1 : Nat), .int .u64 (wd B 2 : Nat), .int .u64 (wd B 3 : Nat)]
theorem setC_get (B k : Nat) (hk : k < 4) : (setC B)[k]? = some (.int .u64 (wd B k : Nat)) := by
  match k, hk with
  | 0, _ => rfl
  | 1, _ => rfl
  | 2, _ => rfl
  | 3, _ => rfl
/-- The first n numbers of it, rising. -/
def elB (B : Nat) : Nat → List Nat
  | 0 => []
  | n + 1 => if B.testBit n then elB B n ++ [n] else elB B n
theorem elB_len (B : Nat) : ∀ n, (elB B n).length = pcn B n
  | 0 => rfl
  | n + 1 => by
    unfold elB pcn
    split
    · next h => rw [List.length_append, elB_len B n, h]; rfl
    · next h => rw [elB_len B n, Bool.eq_false_iff.2 h]; rfl
theorem elB_pre (B : Nat) {n m : Nat} (h : n ≤ m) : elB B n <+: elB B m := by
  induction m with
  | zero =>
    obtain rfl : n = 0 := by omega
    exact List.prefix_rfl
  | succ m ih =>
    rcases Nat.lt_or_ge m n with h1 | h1
    · obtain rfl : n = m + 1 := by omega
      exact List.prefix_rfl
    · refine (ih h1).trans ?_
      rw [elB]
      split
      · exact List.prefix_append _ _
      · exact List.prefix_rfl
end Go.Proofs.Ytmihoeholcaokaa
