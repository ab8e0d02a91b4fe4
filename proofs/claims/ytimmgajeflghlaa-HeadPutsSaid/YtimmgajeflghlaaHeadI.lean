
/- Package head: heads that are read again, plainly. -/
import Derived.Test.YtimmgajeflghlaaHeadE
import Derived.Test.YtimmgajeflghlaaHeadC
import Derived.Test.YtimmgajeflghlaaFloatL
namespace Go.Proofs.Ytimmgajeflghlaa
open Go.RowKit

theorem le_cons' (n : Nat) (x : Int) : le (n + 1) x = x % 256 :: le n (x / 256) := by
  apply List.ext_getElem
  · simp [le]
  · intro i h1 h2
    rcases i with _ | i
    · simp [le]
    · simp only [le, List.getElem_map, List.getElem_range, List.getElem_cons_succ]
      rw [Int.pow_succ, Int.mul_comm, Int.ediv_ediv_of_nonneg (by decide)]
theorem big_le' (M : Int) : ∀ (n : Nat) (x : Int), 0 ≤ x → x < 256 ^ n → (256 : Int) ^ n ≤ M → big M (le n x).reverse = x
  | 0, x, h0, h1, _ => by
    simp at h1
    have : x = 0 := by omega
    subst this; rfl
  | n + 1, x, h0, h1, hM => by
    have hp : (0 : Int) < 256 ^ n := Int.pow_pos (by decide)
    rw [Int.pow_succ] at h1 hM
    rw [le_cons', List.reverse_cons, big_snoc, big_le' M n (x / 256) (by omega) (by omega) (by omega), Int.emod_eq_of_lt (by omega) (by omega)]
    omega
theorem le_big (M : Int) : ∀ (n : Nat) (l : List Int), ByteL l → l.length = n → (256 : Int) ^ n ≤ M → 0 ≤ big M l ∧ big M l < 256 ^ n ∧ (le n (big M l)).reverse = l
  | 0, l, _, hl, _ => by
    have : l = [] := List.length_eq_zero_iff.1 hl
    subst this
    exact ⟨by rw [big_nil]; decide, by rw [big_nil]; decide, rfl⟩
  | n + 1, l, hb, hl, hM => by
    have hp : (0 : Int) < 256 ^ n := Int.pow_pos (by decide)
    rcases List.eq_nil_or_concat l with rfl | ⟨a, c, rfl⟩
    · simp at hl
    · rw [List.concat_eq_append] at *
      have hla : a.length = n := by simpa using hl
      rw [Int.pow_succ] at hM
      obtain ⟨i0, i1, ie⟩ := le_big M n a (fun x hx => hb x (List.mem_append_left _ hx)) hla (by omega)
      have hc := hb c (by simp)
      have e : big M (a ++ [c]) = big M a * 256 + c := by rw [big_snoc, Int.emod_eq_of_lt (by omega) (by omega)]
      rw [e, Int.pow_succ]
      refine ⟨by omega, by omega, ?_⟩
      rw [le_cons', List.reverse_cons, show (big M a * 256 + c) / 256 = big M a by omega, show (big M a * 256 + c) % 256 = c by omega, ie]
theorem pad_cut (l : List Int) (n : Nat) (h : n ≤ l.length) : pad l n = l.take n := by
  apply List.ext_getElem
  · simp [pad, h]
  · intro i h1 h2
    have : i < n := by simpa [pad] using h1
    simp [pad, List.getD, show i < l.length by omega]
theorem hinf_of (i : Int) (a : Int) (h : 24 ≤ i) (h' : i < 28) : hinf (hwid i) a = i := by
  have : i = 24 ∨ i = 25 ∨ i = 26 ∨ i = 27 := by omega
  rcases this with rfl | rfl | rfl | rfl <;> rfl
/-- What of a head that is whole can be said. -/
theorem hread_ok {L : List Int} {r : HR} (hb : ByteL L) (hr : hread L = r) (he : r.e = 0) :
    0 ≤ r.major ∧ r.major ≤ 7 ∧ 0 ≤ r.arg ∧ r.arg < 18446744073709551616 ∧ r.place = -1 ∧ r.many = 1 + r.width ∧ 1 ≤ r.many ∧ r.many ≤ L.length ∧ (¬ (r.major = 7 ∧ 1 < r.width) → hputL r.major r.arg = L.take r.many.toNat) := by
  by_cases h0 : L.length = 0
  · rw [hread_nil h0] at hr
    subst hr
    cases he
  have hc := hb.get 0
  by_cases h28 : 28 ≤ L.getD 0 0 % 32
  · rw [hread_bad (by omega) h28] at hr
    subst hr
    have h1 := hbad_ne (m := L.getD 0 0 / 32) h28
    have he : hbad (L.getD 0 0 / 32) (L.getD 0 0 % 32) = 0 := he
    omega
  have hL1 : L.take 1 = [L.getD 0 0] := by
    have := take_snoc L 0 (by omega)
    simpa using this
  by_cases h24 : L.getD 0 0 % 32 < 24
  · rw [hread_small (by omega) h24] at hr
    subst hr
    dsimp only
    refine ⟨by omega, by omega, by omega, by omega, rfl, by decide, by decide, by omega, fun _ => ?_⟩
    show hputL _ _ = L.take 1
    unfold hputL
    rw [if_neg (by omega), leastW_small h24, hL1]
    show [L.getD 0 0 / 32 * 32 + L.getD 0 0 % 32] = _
    congr 1
    omega
  by_cases hcut : (L.length : Int) ≤ hwid (L.getD 0 0 % 32)
  · rw [hread_cut (by omega) (by omega) (by omega) hcut] at hr
    subst hr
    cases he
  by_cases hs : L.getD 0 0 / 32 = 7 ∧ hwid (L.getD 0 0 % 32) = 1 ∧ harg L (hwid (L.getD 0 0 % 32)) < 32
  · rw [hread_simple (by omega) (by omega) (by omega) hcut hs] at hr
    subst hr
    cases he
  rw [hread_whole (by omega) (by omega) (by omega) hcut hs] at hr
  have hinf := fun a => hinf_of (L.getD 0 0 % 32) a (by omega) (by omega)
  have hW : hwid (L.getD 0 0 % 32) = 1 ∨ hwid (L.getD 0 0 % 32) = 2 ∨ hwid (L.getD 0 0 % 32) = 4 ∨ hwid (L.getD 0 0 % 32) = 8 := by
    rcases hwid_of (L.getD 0 0 % 32) (by omega) (by omega) with ⟨_, h⟩ | ⟨_, h⟩ | ⟨_, h⟩ | ⟨_, h⟩ <;> omega
  have hpow : (256 : Int) ^ (hwid (L.getD 0 0 % 32)).toNat ≤ 18446744073709551616 := by
    rcases hW with h | h | h | h <;> rw [h] <;> decide
  have hlen : ((L.drop 1).take (hwid (L.getD 0 0 % 32)).toNat).length = (hwid (L.getD 0 0 % 32)).toNat := by
    rw [List.length_take, List.length_drop]; omega
  have hbt : ByteL ((L.drop 1).take (hwid (L.getD 0 0 % 32)).toNat) := fun c hc => hb c (List.mem_of_mem_drop (List.mem_of_mem_take hc))
  have hbig := le_big 18446744073709551616 _ _ hbt hlen hpow
  have harg' : harg L (hwid (L.getD 0 0 % 32)) = big 18446744073709551616 ((L.drop 1).take (hwid (L.getD 0 0 % 32)).toNat) := by
    unfold harg
    rw [pad_cut _ _ (by rw [List.length_drop]; omega)]
  rw [← harg'] at hbig
  have htk : L.take (1 + (hwid (L.getD 0 0 % 32)).toNat) = L.getD 0 0 :: (L.drop 1).take (hwid (L.getD 0 0 % 32)).toNat := by
    rw [List.take_add, hL1]; rfl
  rw [← hbig.2.2] at htk
  generalize hwid (L.getD 0 0 % 32) = W at *
  generalize harg L W = a at *
  unfold hlong at hr
  cases hsh : hshort (L.getD 0 0 / 32) W a with
  | false =>
    rw [hsh] at hr
    subst hr
    cases he
  | true =>
    rw [hsh] at hr
    subst hr
    dsimp only
    have h256 := hbig.2.1
    have hlt : a < 18446744073709551616 := by omega
    refine ⟨by omega, by omega, hbig.1, hlt, rfl, rfl, by omega, by omega, fun hm => ?_⟩
    have hle : W = leastW a := by
      unfold hshort at hsh
      rw [if_neg hm] at hsh
      exact of_decide_eq_true hsh
    have h24a : 24 ≤ a := by
      have := hle
      unfold leastW at this
      (repeat' split at this) <;> omega
    have hw7 : L.getD 0 0 / 32 = 7 → W = 1 := fun h => by omega
    have h255 : W = 1 → a ≤ 255 := fun h => by
      subst h
      have h256 : a < 256 := h256
      omega
    unfold hputL
    rw [if_neg (fun h => by
      have := hw7 h.1
      have := h255 this
      have := fun h' => hs ⟨h.1, ‹W = 1›, h'⟩
      omega), ← hle]
    rw [show (1 + W).toNat = 1 + W.toNat by omega, htk]
    unfold hlay
    rw [hinf]
    congr 1
    omega
end Go.Proofs.Ytimmgajeflghlaa
