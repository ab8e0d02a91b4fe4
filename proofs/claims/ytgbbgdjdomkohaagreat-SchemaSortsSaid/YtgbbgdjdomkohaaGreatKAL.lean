/- Floats: what the laws meet: the document's examples, a NaN's and a number's own shortest form. -/
import Derived.Test.YtgbbgdjdomkohaaGreatKAH
import Derived.Test.YtgbbgdjdomkohaaGreatKAI
import Derived.Test.YtgbbgdjdomkohaaGreatKAK
import Derived.Test.YtgbbgdjdomkohaaGreatRows
import Derived.Test.YtgbbgdjdomkohaaGreatKAB
import Derived.Test.YtgbbgdjdomkohaaGreatKAC
import Derived.StillTailTactics
import Derived.Deep.RegionHeld3
namespace Go.Proofs.YtgbbgdjdomkohaaGreat
open Go.RowKit
theorem nan_half : FNan 5 10 32256 := by unfold FNan fex ffr; decide
theorem sh_wd {x y v : Nat} (h : Shortest x y v) (hx : x < 2 ^ 64) : y < 2 ^ 64 ∧ Wd v y (if FNan 11 52 x then 9221120237041090560 else x) ∧ IsShort v y := by
  rcases h with ⟨h, rfl, rfl⟩ | ⟨h, a⟩
  · have e : Wd (2 : Nat) 32256 9221120237041090560 := Or.inl ⟨rfl, widen_nan (by decide) nan_half⟩
    rw [if_pos h]
    exact ⟨by decide, e, _, 2, e, sh_nan nan_wide, rfl⟩
  · rw [if_neg h]
    have key : Wd v y x → Shortest x y v → IsShort v y := fun e s => ⟨x, v, e, s, rfl⟩
    have hs : Shortest x y v := Or.inr ⟨h, a⟩
    rcases a with ⟨rfl, a⟩ | ⟨rfl, a, _⟩ | ⟨rfl, rfl, _, _⟩
    · have e : Wd (2 : Nat) y x := Or.inl ⟨rfl, a⟩
      exact ⟨by have := a.1; omega, e, key e hs⟩
    · have e : Wd (4 : Nat) y x := Or.inr (Or.inl ⟨rfl, a⟩)
      exact ⟨by have := a.1; omega, e, key e hs⟩
    · have e : Wd (8 : Nat) y y := Or.inr (Or.inr ⟨rfl, widen_self hx h⟩)
      exact ⟨hx, e, key e hs⟩
theorem one_short : Shortest 4607182418800017408 15360 2 := by
  refine Or.inr ⟨by unfold FNan fex ffr; decide, Or.inl ⟨rfl, ?_⟩⟩
  have := widen_normal (y := 15360) .half (by decide) (by unfold fex; decide) (by unfold fex; decide)
  have e : fsg 5 10 15360 * 2 ^ 63 + (fex 5 10 15360 + (1023 - (2 ^ (5 - 1) - 1))) * 2 ^ 52 + ffr 10 15360 * 2 ^ (52 - 10) = 4607182418800017408 := by unfold fsg fex ffr; decide
  rw [e] at this
  exact this
theorem tenth_nan : ¬ FNan 11 52 4591870180066957722 := by unfold FNan fex ffr; decide
theorem tenth_half (y : Nat) : ¬ Wide 5 10 1050 y 4591870180066957722 := by
  intro h
  have h1 := (wide_small .half (by decide) h tenth_nan).2.2 (by unfold fex; decide) (by unfold fex; decide)
  have e : fsg 11 52 4591870180066957722 * 2 ^ (5 + 10) + (fex 11 52 4591870180066957722 + (2 ^ (5 - 1) - 1) - 1023) * 2 ^ 10 + ffr 52 4591870180066957722 / 2 ^ (52 - 10) = 11878 := by unfold fsg fex ffr; decide
  rw [e] at h1
  rw [← h1] at h
  have h2 := widen_normal (y := 11878) .half (by decide) (by unfold fex; decide) (by unfold fex; decide)
  have := wide_fun .half h h2
  unfold fsg fex ffr at this
  revert this
  decide
theorem tenth_single (y : Nat) : ¬ Wide 8 23 925 y 4591870180066957722 := by
  intro h
  have h1 := (wide_small .single (by decide) h tenth_nan).2.2 (by unfold fex; decide) (by unfold fex; decide)
  have e : fsg 11 52 4591870180066957722 * 2 ^ (8 + 23) + (fex 11 52 4591870180066957722 + (2 ^ (8 - 1) - 1) - 1023) * 2 ^ 23 + ffr 52 4591870180066957722 / 2 ^ (52 - 23) = 1036831948 := by unfold fsg fex ffr; decide
  rw [e] at h1
  rw [← h1] at h
  have h2 := widen_normal (y := 1036831948) .single (by decide) (by unfold fex; decide) (by unfold fex; decide)
  have := wide_fun .single h h2
  unfold fsg fex ffr at this
  revert this
  decide
theorem tenth_short : Shortest 4591870180066957722 4591870180066957722 8 := Or.inr ⟨tenth_nan, Or.inr (Or.inr ⟨rfl, rfl, tenth_half, tenth_single⟩)⟩
end Go.Proofs.YtgbbgdjdomkohaaGreat

/- Package head: heads that are read again, plainly. -/
namespace Go.Proofs.YtgbbgdjdomkohaaGreat
open Go.RowKit

theorem le_cons' (n : Nat) (x : Int) : le (n + 1) x = x % 256 :: le n (x / 256) := by
  apply List.ext_getElem
  · simp [le]
  · intro i h1 h2
    rcases i with _ | i
    · simp [le]
    · simp only [le, List.getElem_map, List.getElem_range, List.getElem_cons_succ]
      rw [Int.pow_succ, Int.mul_comm, Int.ediv_ediv_of_nonneg (by decide)]
theorem big_le' (M : Int) : ∀ (n : Nat) (x : Int), 0 ≤ x → x < 256 ^ n → (256 : Int) ^ n ≤ M → big M (le n x).reverse = x
  | 0, x, h0, h1, _ => by
    simp at h1
    have : x = 0 := by omega
    subst this; rfl
  | n + 1, x, h0, h1, hM => by
    have hp : (0 : Int) < 256 ^ n := Int.pow_pos (by decide)
    rw [Int.pow_succ] at h1 hM
    rw [le_cons', List.reverse_cons, big_snoc, big_le' M n (x / 256) (by omega) (by omega) (by omega), Int.emod_eq_of_lt (by omega) (by omega)]
    omega
theorem le_big (M : Int) : ∀ (n : Nat) (l : List Int), ByteL l → l.length = n → (256 : Int) ^ n ≤ M → 0 ≤ big M l ∧ big M l < 256 ^ n ∧ (le n (big M l)).reverse = l
  | 0, l, _, hl, _ => by
    have : l = [] := List.length_eq_zero_iff.1 hl
    subst this
    exact ⟨by rw [big_nil]; decide, by rw [big_nil]; decide, rfl⟩
  | n + 1, l, hb, hl, hM => by
    have hp : (0 : Int) < 256 ^ n := Int.pow_pos (by decide)
    rcases List.eq_nil_or_concat l with rfl | ⟨a, c, rfl⟩
    · simp at hl
    · rw [List.concat_eq_append] at *
      have hla : a.length = n := by simpa using hl
      rw [Int.pow_succ] at hM
      obtain ⟨i0, i1, ie⟩ := le_big M n a (fun x hx => hb x (List.mem_append_left _ hx)) hla (by omega)
      have hc := hb c (by simp)
      have e : big M (a ++ [c]) = big M a * 256 + c := by rw [big_snoc, Int.emod_eq_of_lt (by omega) (by omega)]
      rw [e, Int.pow_succ]
      refine ⟨by omega, by omega, ?_⟩
      rw [le_cons', List.reverse_cons, show (big M a * 256 + c) / 256 = big M a by omega, show (big M a * 256 + c) % 256 = c by omega, ie]
theorem pad_cut (l : List Int) (n : Nat) (h : n ≤ l.length) : pad l n = l.take n := by
  apply List.ext_getElem
  · simp [pad, h]
  · intro i h1 h2
    have : i < n := by simpa [pad] using h1
    simp [pad, List.getD, show i < l.length by omega]
theorem hinf_of (i : Int) (a : Int) (h : 24 ≤ i) (h' : i < 28) : hinf (hwid i) a = i := by
  have : i = 24 ∨ i = 25 ∨ i = 26 ∨ i = 27 := by omega
  rcases this with rfl | rfl | rfl | rfl <;> rfl
/-- What of a head that is whole can be said. -/
theorem hread_ok {L : List Int} {r : HR} (hb : ByteL L) (hr : hread L = r) (he : r.e = 0) :
    0 ≤ r.major ∧ r.major ≤ 7 ∧ 0 ≤ r.arg ∧ r.arg < 18446744073709551616 ∧ r.place = -1 ∧ r.many = 1 + r.width ∧ 1 ≤ r.many ∧ r.many ≤ L.length ∧ (¬ (r.major = 7 ∧ 1 < r.width) → hputL r.major r.arg = L.take r.many.toNat) := by
  by_cases h0 : L.length = 0
  · rw [hread_nil h0] at hr
    subst hr
    cases he
  have hc := hb.get 0
  by_cases h28 : 28 ≤ L.getD 0 0 % 32
  · rw [hread_bad (by omega) h28] at hr
    subst hr
    have h1 := hbad_ne (m := L.getD 0 0 / 32) h28
    have he : hbad (L.getD 0 0 / 32) (L.getD 0 0 % 32) = 0 := he
    omega
  have hL1 : L.take 1 = [L.getD 0 0] := by
    have := take_snoc L 0 (by omega)
    simpa using this
  by_cases h24 : L.getD 0 0 % 32 < 24
  · rw [hread_small (by omega) h24] at hr
    subst hr
    dsimp only
    refine ⟨by omega, by omega, by omega, by omega, rfl, by decide, by decide, by omega, fun _ => ?_⟩
    show hputL _ _ = L.take 1
    unfold hputL
    rw [if_neg (by omega), leastW_small h24, hL1]
    show [L.getD 0 0 / 32 * 32 + L.getD 0 0 % 32] = _
    congr 1
    omega
  by_cases hcut : (L.length : Int) ≤ hwid (L.getD 0 0 % 32)
  · rw [hread_cut (by omega) (by omega) (by omega) hcut] at hr
    subst hr
    cases he
  by_cases hs : L.getD 0 0 / 32 = 7 ∧ hwid (L.getD 0 0 % 32) = 1 ∧ harg L (hwid (L.getD 0 0 % 32)) < 32
  · rw [hread_simple (by omega) (by omega) (by omega) hcut hs] at hr
    subst hr
    cases he
  rw [hread_whole (by omega) (by omega) (by omega) hcut hs] at hr
  have hinf := fun a => hinf_of (L.getD 0 0 % 32) a (by omega) (by omega)
  have hW : hwid (L.getD 0 0 % 32) = 1 ∨ hwid (L.getD 0 0 % 32) = 2 ∨ hwid (L.getD 0 0 % 32) = 4 ∨ hwid (L.getD 0 0 % 32) = 8 := by
    rcases hwid_of (L.getD 0 0 % 32) (by omega) (by omega) with ⟨_, h⟩ | ⟨_, h⟩ | ⟨_, h⟩ | ⟨_, h⟩ <;> omega
  have hpow : (256 : Int) ^ (hwid (L.getD 0 0 % 32)).toNat ≤ 18446744073709551616 := by
    rcases hW with h | h | h | h <;> rw [h] <;> decide
  have hlen : ((L.drop 1).take (hwid (L.getD 0 0 % 32)).toNat).length = (hwid (L.getD 0 0 % 32)).toNat := by
    rw [List.length_take, List.length_drop]; omega
  have hbt : ByteL ((L.drop 1).take (hwid (L.getD 0 0 % 32)).toNat) := fun c hc => hb c (List.mem_of_mem_drop (List.mem_of_mem_take hc))
  have hbig := le_big 18446744073709551616 _ _ hbt hlen hpow
  have harg' : harg L (hwid (L.getD 0 0 % 32)) = big 18446744073709551616 ((L.drop 1).take (hwid (L.getD 0 0 % 32)).toNat) := by
    unfold harg
    rw [pad_cut _ _ (by rw [List.length_drop]; omega)]
  rw [← harg'] at hbig
  have htk : L.take (1 + (hwid (L.getD 0 0 % 32)).toNat) = L.getD 0 0 :: (L.drop 1).take (hwid (L.getD 0 0 % 32)).toNat := by
    rw [List.take_add, hL1]; rfl
  rw [← hbig.2.2] at htk
  generalize hwid (L.getD 0 0 % 32) = W at *
  generalize harg L W = a at *
  unfold hlong at hr
  cases hsh : hshort (L.getD 0 0 / 32) W a with
  | false =>
    rw [hsh] at hr
    subst hr
    cases he
  | true =>
    rw [hsh] at hr
    subst hr
    dsimp only
    have h256 := hbig.2.1
    have hlt : a < 18446744073709551616 := by omega
    refine ⟨by omega, by omega, hbig.1, hlt, rfl, rfl, by omega, by omega, fun hm => ?_⟩
    have hle : W = leastW a := by
      unfold hshort at hsh
      rw [if_neg hm] at hsh
      exact of_decide_eq_true hsh
    have h24a : 24 ≤ a := by
      have := hle
      unfold leastW at this
      (repeat' split at this) <;> omega
    have hw7 : L.getD 0 0 / 32 = 7 → W = 1 := fun h => by omega
    have h255 : W = 1 → a ≤ 255 := fun h => by
      subst h
      have h256 : a < 256 := h256
      omega
    unfold hputL
    rw [if_neg (fun h => by
      have := hw7 h.1
      have := h255 this
      have := fun h' => hs ⟨h.1, ‹W = 1›, h'⟩
      omega), ← hle]
    rw [show (1 + W).toNat = 1 + W.toNat by omega, htk]
    unfold hlay
    rw [hinf]
    congr 1
    omega
end Go.Proofs.YtgbbgdjdomkohaaGreat

/- Package head: heads that were put are read again. -/
namespace Go.Proofs.YtgbbgdjdomkohaaGreat
open Go.RowKit

theorem hlay_length (m W a : Int) : (hlay m W a).length = 1 + W.toNat := by
  unfold hlay
  rw [List.length_cons, List.length_reverse, length_le]
  omega
theorem hwid_hinf {W : Int} (a : Int) (hW : W = 1 ∨ W = 2 ∨ W = 4 ∨ W = 8) : 24 ≤ hinf W a ∧ hinf W a < 28 ∧ hwid (hinf W a) = W := by
  rcases hW with rfl | rfl | rfl | rfl <;> exact ⟨by simp [hinf], by simp [hinf], rfl⟩
theorem hread_lay (m W a : Int) (r : List Int) (_hm0 : 0 ≤ m) (_hm7 : m ≤ 7) (hW : W = 1 ∨ W = 2 ∨ W = 4 ∨ W = 8) (h0 : 0 ≤ a) (h1 : a < 256 ^ W.toNat) (hs : ¬ (m = 7 ∧ W = 1 ∧ a < 32)) :
    hread (hlay m W a ++ r) = hlong m W a := by
  obtain ⟨i0, i1, iw⟩ := hwid_hinf a hW
  have hc : (hlay m W a ++ r).getD 0 0 = m * 32 + hinf W a := rfl
  have hlen : (hlay m W a ++ r).length = 1 + W.toNat + r.length := by rw [List.length_append, hlay_length]
  have hd : (hlay m W a ++ r).drop 1 = (le W.toNat a).reverse ++ r := rfl
  have hp : pad ((le W.toNat a).reverse ++ r) W.toNat = (le W.toNat a).reverse := by
    rw [pad_cut _ _ (by rw [List.length_append, List.length_reverse, length_le]; omega), List.take_append_of_le_length (by rw [List.length_reverse, length_le]; omega), List.take_of_length_le (by rw [List.length_reverse, length_le]; omega)]
  have ha : harg (hlay m W a ++ r) W = a := by
    unfold harg
    rw [hd, hp]
    refine big_le' _ _ _ h0 h1 ?_
    rcases hW with rfl | rfl | rfl | rfl <;> decide
  have e1 : (m * 32 + hinf W a) / 32 = m := by omega
  have e2 : (m * 32 + hinf W a) % 32 = hinf W a := by omega
  have := hread_whole (L := hlay m W a ++ r) (by omega) (by rw [hc, e2]; exact i0) (by rw [hc, e2]; exact i1) (by rw [hc, e2, iw]; omega) (by rw [hc, e1, e2, iw, ha]; exact hs)
  rw [hc, e1, e2, iw, ha] at this
  exact this
theorem hread_lay0 (m a : Int) (r : List Int) (_hm0 : 0 ≤ m) (_hm7 : m ≤ 7) (h0 : 0 ≤ a) (h1 : a < 24) : hread (hlay m 0 a ++ r) = ⟨m, 0, a, 1, -1, 0⟩ := by
  have hc : (hlay m 0 a ++ r).getD 0 0 = m * 32 + a := rfl
  have := hread_small (L := hlay m 0 a ++ r) (by rw [List.length_append, hlay_length]; omega) (by rw [hc]; omega)
  rw [hc, show (m * 32 + a) / 32 = m by omega, show (m * 32 + a) % 32 = a by omega] at this
  exact this
theorem hput_none {m a : Int} (h : hputL m a = []) : m = 7 := by
  unfold hputL at h
  split at h
  · omega
  · unfold hlay at h; cases h
theorem hput_some {m a : Int} (h : hputL m a ≠ []) : hputL m a = hlay m (leastW a) a ∧ ¬ (m = 7 ∧ 24 ≤ a ∧ (a < 32 ∨ 255 < a)) := by
  unfold hputL at h ⊢
  split
  · rename_i hh; rw [if_pos hh] at h; exact absurd rfl h
  · rename_i hh; exact ⟨rfl, hh⟩
theorem hread_put {m a : Int} (r : List Int) (hm0 : 0 ≤ m) (hm7 : m ≤ 7) (h0 : 0 ≤ a) (h1 : a < 18446744073709551616) (h : hputL m a ≠ []) :
    hread (hputL m a ++ r) = ⟨m, leastW a, a, (hputL m a).length, -1, 0⟩ := by
  obtain ⟨e, hn⟩ := hput_some h
  rw [e, hlay_length]
  by_cases h24 : a < 24
  · rw [leastW_small h24, hread_lay0 m a r hm0 hm7 h0 h24]; rfl
  · have hW : leastW a = 1 ∧ a < 256 ∨ leastW a = 2 ∧ a < 65536 ∧ 256 ≤ a ∨ leastW a = 4 ∧ a < 4294967296 ∧ 256 ≤ a ∨ leastW a = 8 ∧ 256 ≤ a := by
      unfold leastW
      (repeat' split) <;> omega
    have hw : 0 ≤ leastW a := by omega
    have hp : a < 256 ^ (leastW a).toNat := by
      rcases hW with ⟨e, h⟩ | ⟨e, h, _⟩ | ⟨e, h, _⟩ | ⟨e, _⟩ <;> rw [e]
      · exact h
      · exact h
      · exact h
      · exact h1
    rw [hread_lay m (leastW a) a r hm0 hm7 (by omega) h0 hp (by omega)]
    have hs : hshort m (leastW a) a = true := by
      unfold hshort
      rw [if_neg (by omega)]
      simp
    unfold hlong
    rw [hs]
    simp only [if_true]
    congr 1
    omega
theorem hread_float {x z k : Nat} (h : Shortest x z k) (hx : x < 2 ^ 64) : hread (hlay 7 k z) = ⟨7, k, z, (hlay 7 k z).length, -1, 0⟩ := by
  have hs : fshort (k : Int) (z : Int) = true := by
    unfold fshort
    have := (sh_wd h hx).2.2
    simpa using this
  have hk : ((k : Int) = 2 ∧ (z : Int) < 65536) ∨ ((k : Int) = 4 ∧ (z : Int) < 4294967296) ∨ (k : Int) = 8 := by
    rcases h with ⟨_, rfl, rfl⟩ | ⟨_, ⟨rfl, hw⟩ | ⟨rfl, hw, _⟩ | ⟨rfl, _⟩⟩
    · exact Or.inl ⟨rfl, by decide⟩
    · have := hw.1; exact Or.inl ⟨rfl, by omega⟩
    · have := hw.1; exact Or.inr (Or.inl ⟨rfl, by omega⟩)
    · exact Or.inr (Or.inr rfl)
  have hz : (z : Int) < 18446744073709551616 := by have := (sh_wd h hx).1; omega
  have hp : (z : Int) < 256 ^ ((k : Int)).toNat := by
    rcases hk with ⟨e, h⟩ | ⟨e, h⟩ | e <;> rw [e]
    · exact h
    · exact h
    · exact hz
  have := hread_lay 7 k z [] (by decide) (by decide) (by omega) (by omega) hp (by omega)
  rw [List.append_nil] at this
  rw [this, hlay_length]
  unfold hlong
  have e : hshort 7 k z = true := by
    unfold hshort
    rw [if_pos ⟨rfl, by omega⟩]
    exact hs
  rw [e]
  simp only [if_true]
  congr 1
theorem byte_le' (n : Nat) (x : Int) : ByteL (le n x) := byte_le n x
theorem byte_lay {m W a : Int} (hm0 : 0 ≤ m) (hm7 : m ≤ 7) (h : (W = 0 ∧ 0 ≤ a ∧ a < 24) ∨ W ≠ 0) : ByteL (hlay m W a) := fun c hc => by
  unfold hlay at hc
  rcases List.mem_cons.1 hc with rfl | hc
  · have : 0 ≤ hinf W a ∧ hinf W a < 32 := by unfold hinf; (repeat' split) <;> omega
    omega
  · exact byte_le _ _ c (List.mem_reverse.1 hc)
theorem byte_put {m a : Int} (hm0 : 0 ≤ m) (hm7 : m ≤ 7) (h0 : 0 ≤ a) : ByteL (hputL m a) := by
  unfold hputL
  split
  · intro c hc; cases hc
  · refine byte_lay hm0 hm7 ?_
    by_cases h : a < 24
    · exact Or.inl ⟨leastW_small h, h0, h⟩
    · refine Or.inr ?_
      unfold leastW
      (repeat' split) <;> omega
end Go.Proofs.YtgbbgdjdomkohaaGreat

/- Package head: small functions. -/
namespace Go.Proofs.YtgbbgdjdomkohaaGreat
open Go.RowKit

def LW (a W : Int) : Prop := W = 1 ∨ (W = 2 ∧ 256 ≤ a) ∨ (W = 4 ∧ 65536 ≤ a) ∨ (W = 8 ∧ 4294967296 ≤ a)
theorem head_least (a : Int) (h0 : 0 ≤ a) (h1 : a < 18446744073709551616) (w : World) :
    Calls Tryz.prog 61 #[.int .u64 a] w fun e w' => e = .returned (.int .i64 (leastW a)) ∧ w = w' := by
  by_cases h24 : a < 24
  · have e : leastW a = 0 := by unfold leastW; rw [if_pos h24]
    rw [e]
    clear e
    go_enter Tryz.func61, Tryz.ntmps61
    go_wp2
    go_ret
    exact ⟨rfl, rfl⟩
  · have HL : Hid (∀ W, LW a W → (W = 1 → a < 256) → (W = 2 → a < 65536) → (W = 4 → a < 4294967296) → W = leastW a) := by
      intro W hW h1 h2 h4
      unfold leastW
      rcases hW with rfl | ⟨rfl, _⟩ | ⟨rfl, _⟩ | ⟨rfl, _⟩ <;> (repeat' split) <;> omega
    go_enter Tryz.func61, Tryz.ntmps61
    go_wp2
    go_loop [3] (fun y => ∃ W : Int, y = .int .i64 W ∧ LW a W) (fun y => 8 - (intOf y).toNat)
    case atStart => exact ⟨1, rfl, Or.inl rfl⟩
    case round =>
      obtain ⟨W, rfl, hW⟩ := hrel
      have HW := Lib.hid hW
      rcases hW with rfl | ⟨rfl, hb⟩ | ⟨rfl, hb⟩ | ⟨rfl, hb⟩
      · by_cases hq : a / 256 = 0
        · go_wp2
          go_ret
          exact ⟨ret_num (HL.out _ HW.out (by omega) (by omega) (by omega)), rfl⟩
        · have hq' : (a / 256 == 0) = false := by simp [hq]
          go_wp2
          go_round
          case rel => exact ⟨2, rfl, Or.inr (Or.inl ⟨rfl, by omega⟩)⟩
          case measure => simp [intOf]
      · by_cases hq : a / 65536 = 0
        · go_wp2
          go_ret
          exact ⟨ret_num (HL.out _ HW.out (by omega) (by omega) (by omega)), rfl⟩
        · go_wp2
          go_round
          case rel => exact ⟨4, rfl, Or.inr (Or.inr (Or.inl ⟨rfl, by omega⟩))⟩
          case measure => simp [intOf]
      · by_cases hq : a / 4294967296 = 0
        · go_wp2
          go_ret
          exact ⟨ret_num (HL.out _ HW.out (by omega) (by omega) (by omega)), rfl⟩
        · go_wp2
          go_round
          case rel => exact ⟨8, rfl, Or.inr (Or.inr (Or.inr ⟨rfl, by omega⟩))⟩
          case measure => simp [intOf]
      · go_wp2
        go_ret
        exact ⟨ret_num (HL.out _ HW.out (by omega) (by omega) (by omega)), rfl⟩

theorem hblk {w : World} {g : Nat} {t : TypeId} {m W a l e : Int} {o : Bool} (h : Blk w g t (hcells ⟨m, W, a, l, o, e⟩)) :
    w.cell? ⟨g, 0, none⟩ = some (.int .i64 m) ∧ w.cell? ⟨g, 1, none⟩ = some (.int .i64 W) ∧ w.cell? ⟨g, 2, none⟩ = some (.int .u64 a) ∧ w.cell? ⟨g, 3, none⟩ = some (.int .i64 l) ∧ w.cell? ⟨g, 4, none⟩ = some (.bool o) ∧ w.cell? ⟨g, 5, none⟩ = some (.int .i64 e) ∧ (∀ i, w.frozen? ⟨g, i, none⟩ = false) :=
  ⟨h.cell 0, h.cell 1, h.cell 2, h.cell 3, h.cell 4, h.cell 5, h.free⟩
theorem hcells_one (q : HQ) : (hcells q).all (·.oneCell') = true := by
  rw [Array.all_eq_true_iff_forall_mem]
  intro x hx
  simp [hcells] at hx
  rcases hx with rfl | rfl | rfl | rfl | rfl | rfl <;> rfl
theorem hblk_put {w : World} {g : Nat} {t : TypeId} {q : HQ} (h : Blk w g t (hcells q)) (m W a l : Int) (o : Bool) (e : Int) :
    Blk ((((((w.setCell ⟨g, 0, none⟩ (.int .i64 m)).setCell ⟨g, 1, none⟩ (.int .i64 W)).setCell ⟨g, 2, none⟩ (.int .u64 a)).setCell ⟨g, 3, none⟩ (.int .i64 l)).setCell ⟨g, 4, none⟩ (.bool o)).setCell ⟨g, 5, none⟩ (.int .i64 e)) g t (hcells ⟨m, W, a, l, o, e⟩) :=
  (((((h.put 0 (.int .i64 m)).put 1 (.int .i64 W)).put 2 (.int .u64 a)).put 3 (.int .i64 l)).put 4 (.bool o)).put 5 (.int .i64 e)
theorem honly_put (g : Nat) (w : World) (x0 x1 x2 x3 x4 x5 : Value) :
    Only g w ((((((w.setCell ⟨g, 0, none⟩ x0).setCell ⟨g, 1, none⟩ x1).setCell ⟨g, 2, none⟩ x2).setCell ⟨g, 3, none⟩ x3).setCell ⟨g, 4, none⟩ x4).setCell ⟨g, 5, none⟩ x5) :=
  ((((((Only.refl g w).put 0 _).put 1 _).put 2 _).put 3 _).put 4 _).put 5 _
theorem and31 (c : Int) (h0 : 0 ≤ c) (h1 : c < 256) : bits .and .u8 c 31 = c % 32 := by
  obtain ⟨n, rfl⟩ := Int.eq_ofNat_of_zero_le h0
  have h : ∀ k : Fin 256, bits .and .u8 (k.val : Int) 31 = (k.val : Int) % 32 := by decide +kernel
  exact h ⟨n, by omega⟩
end Go.Proofs.YtgbbgdjdomkohaaGreat

/- Package head: the bytes of a head. -/
namespace Go.Proofs.YtgbbgdjdomkohaaGreat
open Go.RowKit

theorem head_info (W : Int) (hW : W = 1 ∨ W = 2 ∨ W = 4 ∨ W = 8) (w : World) :
    Calls Tryz.prog 72 #[.int .i64 W] w fun e w' => e = .returned (.int .u8 (hinf W 0)) ∧ w' = w := by
  go_enter Tryz.func72, Tryz.ntmps72
  go_wp2
  go_loop [0, 3] (fun x y => ∃ k : Int, (k = 1 ∨ k = 2 ∨ k = 4 ∨ k = 8) ∧ k ≤ W ∧ x = .int .i64 k ∧ y = .int .u8 (24 + (hinf W 0 - hinf k 0))) (fun x _ => (intOf x).toNat)
  case atStart => exact ⟨W, hW, Int.le_refl _, rfl, by simp⟩
  case round =>
    obtain ⟨k, hk, hkW, rfl, rfl⟩ := hrel
    rcases hW with rfl | rfl | rfl | rfl <;> rcases hk with rfl | rfl | rfl | rfl <;> first
      | (exfalso; omega)
      | (go_wp2
         go_ret
         exact ⟨rfl, rfl⟩)
      | (go_wp2
         go_round
         case rel => exact ⟨_, by first | exact Or.inl rfl | exact Or.inr (Or.inl rfl) | exact Or.inr (Or.inr (Or.inl rfl)), by decide, rfl, rfl⟩
         case measure => decide)
theorem or_first (m x : Int) (hm0 : 0 ≤ m) (hm7 : m ≤ 7) (hx0 : 0 ≤ x) (hx1 : x < 32) : bits .or .u8 (m * 32) x = m * 32 + x := by
  obtain ⟨k, rfl⟩ := Int.eq_ofNat_of_zero_le hm0
  obtain ⟨y, rfl⟩ := Int.eq_ofNat_of_zero_le hx0
  have h : ∀ (k : Fin 8) (y : Fin 32), bits .or .u8 ((k.val : Int) * 32) (y.val : Int) = (k.val : Int) * 32 + (y.val : Int) := by decide +kernel
  exact h ⟨k, by omega⟩ ⟨y, by omega⟩
theorem take_le (n k : Nat) (a : Int) (h : k ≤ n) : (le n a).take k = le k a := by
  simp only [le, ← List.map_take, List.take_range, Nat.min_eq_left h]
theorem drop_rle (k : Nat) (a : Int) (h : k ≤ 8) : (le 8 a).reverse.drop (8 - k) = (le k a).reverse := by
  rw [List.drop_reverse, length_le, show 8 - (8 - k) = k by omega, take_le 8 k a h]
set_option maxHeartbeats 1000000 in
theorem head_lay0 (m a : Int) (hm0 : 0 ≤ m) (hm7 : m ≤ 7) (h0 : 0 ≤ a) (h1 : a < 24) (w : World) :
    Calls Tryz.prog 60 #[.int .i64 m, .int .u64 a, .int .i64 0] w fun e w' => ∃ v, e = .returned v ∧ Own w' w.heap.size .u8 5 v (hlay m 0 a) ∧ Below w.heap.size w w' := by
  have HO := or_first m a hm0 hm7 h0 (by omega)
  have e : hlay m 0 a = [m * 32 + a] := rfl
  rw [e]
  clear e
  have hx : m * 32 + a < 256 := by omega
  generalize m * 32 + a = x at *
  go_enter Tryz.func60, Tryz.ntmps60
  go_wp2_with fail
  go_ret
  exact ⟨_, rfl, own_cells w _ [x] (by simp), below_alloc _ _⟩
theorem lay_run {w w2 : World} {g : Nat} {x : Int} {Z Y : List Int} {k : Nat} (o : Nat) (ho : o = 8 - k) (s2 : Below w.heap.size w w2) (b2 : Blk w2 g 5 (nums .u8 Z)) (hZ : Z.length = 8) (hk : k ≤ 8) (hk0 : 0 < k) (hd : Z.drop (8 - k) = Y) :
    ∃ v3 w3, (Builtin.append_ #[46, 46] 46 #[.slice (some ⟨w2.heap.size, 0, none⟩) 1 1, .slice (some ⟨g, o, none⟩) k k]).run Tryz.prog (w2.alloc (.cells #[.int .u8 x] 5)).drew = .ok v3 w3 ∧ Own w3 w.heap.size .u8 5 v3 (x :: Y) ∧ Below w.heap.size w w3 := by
  subst hd ho
  have o1 : Own (w2.alloc (.cells #[.int .u8 x] 5)).drew w.heap.size .u8 5 (.slice (some ⟨w2.heap.size, 0, none⟩) 1 1) [x] :=
    (Own.ofBlk (Blk.fresh w2 5 (nums .u8 [x])) s2.size (by unfold maxLen; simp)).drew
  have r1 : Rd (w2.alloc (.cells #[.int .u8 x] 5)).drew (w2.alloc (.cells #[.int .u8 x] 5)).drew.heap.size .u8 (some ⟨g, 8 - k, none⟩) (Z.drop (8 - k)) := by
    have := (b2.alloc (.cells #[.int .u8 x] 5)).drew.rd.cut (8 - k) 8 (by omega)
    have e : cutA (some ⟨g, 0, none⟩) (8 - k) 8 = some ⟨g, 8 - k, none⟩ := by
      unfold cutA
      rw [if_neg (by omega)]
      show some ((⟨g, 0, none⟩ : Addr).add (8 - k)) = _
      rw [Addr.add_mid, Nat.zero_add]
    rwa [e] at this
  have hl : (Z.drop (8 - k)).length = k := by rw [List.length_drop, hZ]; omega
  have hs : w.heap.size ≤ (w2.alloc (.cells #[.int .u8 x] 5)).drew.heap.size := by
    have := s2.size
    show _ ≤ (w2.heap.push _).size
    simp
    omega
  obtain ⟨v3, w3, hr3, o3, hb3, _⟩ := run_append_nums (P := Tryz.prog) (ty := 46) (xs := Z.drop (8 - k)) (cap := k) Tryz.underlying46 hinfo1 (by decide) o1 r1 (fun h => by cases h) (by rw [hl]; simp; omega) hs
  rw [hl] at hr3
  exact ⟨v3, w3, hr3, o3, (below_drawn (s2.alloc s2.size _)).trans hb3⟩
set_option maxRecDepth 100000 in
set_option maxHeartbeats 4000000 in
theorem head_lay1 (m a : Int) (hm0 : 0 ≤ m) (hm7 : m ≤ 7) (h0 : 0 ≤ a) (w : World) :
    Calls Tryz.prog 60 #[.int .i64 m, .int .u64 a, .int .i64 1] w fun e w' => ∃ v, e = .returned v ∧ Own w' w.heap.size .u8 5 v (hlay m 1 a) ∧ Below w.heap.size w w' := by
  have HO := or_first m 24 hm0 hm7 (by decide) (by decide)
  have e : hlay m 1 a = (m * 32 + 24) :: (le 1 a).reverse := rfl
  rw [e]
  clear e
  have HI : Hid (∀ w, Calls Tryz.prog 72 #[.int .i64 1] w fun e w' => e = .returned (.int .u8 24) ∧ w' = w) := Lib.hid (fun w => head_info 1 (Or.inl rfl) w)
  have HP := Lib.hid (PutBig64 w a h0)
  have hd := Lib.hid (drop_rle 1 a (by decide))
  have hz := Lib.hid (length_rle 8 a)
  have hx : m * 32 + 24 < 256 := by omega
  generalize m * 32 + 24 = x at *
  generalize (le 8 a).reverse = Z at *
  generalize (le 1 a).reverse = Y at *
  go_enter Tryz.func60, Tryz.ntmps60
  go_wp2_with fail
  refine HP.out.mono ?_
  rintro e w2 ⟨g, rfl, b2, s2⟩
  obtain ⟨v3, w3, hr3, o3, s3⟩ := lay_run (x := x) 7 rfl s2 b2 hz.out (by decide : 1 ≤ 8) (by decide) hd.out
  have HR3 := Lib.hid hr3
  have O3 := Lib.hid o3
  have S3 := Lib.hid s3
  have hsl : ∀ w, (Instr.sliceAt 46 (.slice (some ⟨g, 0, none⟩) 8 8) (some (.int .i64 7)) none none).run Tryz.prog w = .ok (.slice (some ⟨g, 7, none⟩) 1 1) w := fun w => by
    have := run_cut (P := Tryz.prog) Tryz.underlying46 elem_one w (some ⟨g, 0, none⟩) 8 8 7 7 rfl (by decide)
    have e : cutA (some ⟨g, 0, none⟩) 7 8 = some ⟨g, 7, none⟩ := by
      unfold cutA
      rw [if_neg (by decide)]
      show some ((⟨g, 0, none⟩ : Addr).add 7) = _
      rw [Addr.add_mid, Nat.zero_add]
    rwa [e] at this
  have hww : IntKind.i64.wrap 7 = 7 := rfl
  clear hr3 o3 s3 b2 s2 HP hd hz
  go_wp2_with fail
  go_region_held3 (fun _ => True) (trivial) ((first | (refine step_append_run rfl rfl HR3.out rfl rfl ?_) | (refine (HI.out _).mono ?_; rintro e w' ⟨rfl, rfl⟩)))
  all_goals go_wp2_with fail
  all_goals go_ret
  all_goals exact ⟨_, rfl, O3.out, S3.out⟩
set_option maxRecDepth 100000 in
set_option maxHeartbeats 4000000 in
theorem head_lay2 (m a : Int) (hm0 : 0 ≤ m) (hm7 : m ≤ 7) (h0 : 0 ≤ a) (w : World) :
    Calls Tryz.prog 60 #[.int .i64 m, .int .u64 a, .int .i64 2] w fun e w' => ∃ v, e = .returned v ∧ Own w' w.heap.size .u8 5 v (hlay m 2 a) ∧ Below w.heap.size w w' := by
  have HO := or_first m 25 hm0 hm7 (by decide) (by decide)
  have e : hlay m 2 a = (m * 32 + 25) :: (le 2 a).reverse := rfl
  rw [e]
  clear e
  have HI : Hid (∀ w, Calls Tryz.prog 72 #[.int .i64 2] w fun e w' => e = .returned (.int .u8 25) ∧ w' = w) := Lib.hid (fun w => head_info 2 (Or.inr (Or.inl rfl)) w)
  have HP := Lib.hid (PutBig64 w a h0)
  have hd := Lib.hid (drop_rle 2 a (by decide))
  have hz := Lib.hid (length_rle 8 a)
  have hx : m * 32 + 25 < 256 := by omega
  generalize m * 32 + 25 = x at *
  generalize (le 8 a).reverse = Z at *
  generalize (le 2 a).reverse = Y at *
  go_enter Tryz.func60, Tryz.ntmps60
  go_wp2_with fail
  refine HP.out.mono ?_
  rintro e w2 ⟨g, rfl, b2, s2⟩
  obtain ⟨v3, w3, hr3, o3, s3⟩ := lay_run (x := x) 6 rfl s2 b2 hz.out (by decide : 2 ≤ 8) (by decide) hd.out
  have HR3 := Lib.hid hr3
  have O3 := Lib.hid o3
  have S3 := Lib.hid s3
  have hsl : ∀ w, (Instr.sliceAt 46 (.slice (some ⟨g, 0, none⟩) 8 8) (some (.int .i64 6)) none none).run Tryz.prog w = .ok (.slice (some ⟨g, 6, none⟩) 2 2) w := fun w => by
    have := run_cut (P := Tryz.prog) Tryz.underlying46 elem_one w (some ⟨g, 0, none⟩) 8 8 6 6 rfl (by decide)
    have e : cutA (some ⟨g, 0, none⟩) 6 8 = some ⟨g, 6, none⟩ := by
      unfold cutA
      rw [if_neg (by decide)]
      show some ((⟨g, 0, none⟩ : Addr).add 6) = _
      rw [Addr.add_mid, Nat.zero_add]
    rwa [e] at this
  have hww : IntKind.i64.wrap 6 = 6 := rfl
  clear hr3 o3 s3 b2 s2 HP hd hz
  go_wp2_with fail
  go_region_held3 (fun _ => True) (trivial) ((first | (refine step_append_run rfl rfl HR3.out rfl rfl ?_) | (refine (HI.out _).mono ?_; rintro e w' ⟨rfl, rfl⟩)))
  all_goals go_wp2_with fail
  all_goals go_ret
  all_goals exact ⟨_, rfl, O3.out, S3.out⟩
set_option maxRecDepth 100000 in
set_option maxHeartbeats 4000000 in
theorem head_lay4 (m a : Int) (hm0 : 0 ≤ m) (hm7 : m ≤ 7) (h0 : 0 ≤ a) (w : World) :
    Calls Tryz.prog 60 #[.int .i64 m, .int .u64 a, .int .i64 4] w fun e w' => ∃ v, e = .returned v ∧ Own w' w.heap.size .u8 5 v (hlay m 4 a) ∧ Below w.heap.size w w' := by
  have HO := or_first m 26 hm0 hm7 (by decide) (by decide)
  have e : hlay m 4 a = (m * 32 + 26) :: (le 4 a).reverse := rfl
  rw [e]
  clear e
  have HI : Hid (∀ w, Calls Tryz.prog 72 #[.int .i64 4] w fun e w' => e = .returned (.int .u8 26) ∧ w' = w) := Lib.hid (fun w => head_info 4 (Or.inr (Or.inr (Or.inl rfl))) w)
  have HP := Lib.hid (PutBig64 w a h0)
  have hd := Lib.hid (drop_rle 4 a (by decide))
  have hz := Lib.hid (length_rle 8 a)
  have hx : m * 32 + 26 < 256 := by omega
  generalize m * 32 + 26 = x at *
  generalize (le 8 a).reverse = Z at *
  generalize (le 4 a).reverse = Y at *
  go_enter Tryz.func60, Tryz.ntmps60
  go_wp2_with fail
  refine HP.out.mono ?_
  rintro e w2 ⟨g, rfl, b2, s2⟩
  obtain ⟨v3, w3, hr3, o3, s3⟩ := lay_run (x := x) 4 rfl s2 b2 hz.out (by decide : 4 ≤ 8) (by decide) hd.out
  have HR3 := Lib.hid hr3
  have O3 := Lib.hid o3
  have S3 := Lib.hid s3
  have hsl : ∀ w, (Instr.sliceAt 46 (.slice (some ⟨g, 0, none⟩) 8 8) (some (.int .i64 4)) none none).run Tryz.prog w = .ok (.slice (some ⟨g, 4, none⟩) 4 4) w := fun w => by
    have := run_cut (P := Tryz.prog) Tryz.underlying46 elem_one w (some ⟨g, 0, none⟩) 8 8 4 4 rfl (by decide)
    have e : cutA (some ⟨g, 0, none⟩) 4 8 = some ⟨g, 4, none⟩ := by
      unfold cutA
      rw [if_neg (by decide)]
      show some ((⟨g, 0, none⟩ : Addr).add 4) = _
      rw [Addr.add_mid, Nat.zero_add]
    rwa [e] at this
  have hww : IntKind.i64.wrap 4 = 4 := rfl
  clear hr3 o3 s3 b2 s2 HP hd hz
  go_wp2_with fail
  go_region_held3 (fun _ => True) (trivial) ((first | (refine step_append_run rfl rfl HR3.out rfl rfl ?_) | (refine (HI.out _).mono ?_; rintro e w' ⟨rfl, rfl⟩)))
  all_goals go_wp2_with fail
  all_goals go_ret
  all_goals exact ⟨_, rfl, O3.out, S3.out⟩
set_option maxRecDepth 100000 in
set_option maxHeartbeats 4000000 in
theorem head_lay8 (m a : Int) (hm0 : 0 ≤ m) (hm7 : m ≤ 7) (h0 : 0 ≤ a) (w : World) :
    Calls Tryz.prog 60 #[.int .i64 m, .int .u64 a, .int .i64 8] w fun e w' => ∃ v, e = .returned v ∧ Own w' w.heap.size .u8 5 v (hlay m 8 a) ∧ Below w.heap.size w w' := by
  have HO := or_first m 27 hm0 hm7 (by decide) (by decide)
  have e : hlay m 8 a = (m * 32 + 27) :: (le 8 a).reverse := rfl
  rw [e]
  clear e
  have HI : Hid (∀ w, Calls Tryz.prog 72 #[.int .i64 8] w fun e w' => e = .returned (.int .u8 27) ∧ w' = w) := Lib.hid (fun w => head_info 8 (Or.inr (Or.inr (Or.inr rfl))) w)
  have HP := Lib.hid (PutBig64 w a h0)
  have hd := Lib.hid (drop_rle 8 a (by decide))
  have hz := Lib.hid (length_rle 8 a)
  have hx : m * 32 + 27 < 256 := by omega
  generalize m * 32 + 27 = x at *
  generalize (le 8 a).reverse = Z at *
  generalize (le 8 a).reverse = Y at *
  go_enter Tryz.func60, Tryz.ntmps60
  go_wp2_with fail
  refine HP.out.mono ?_
  rintro e w2 ⟨g, rfl, b2, s2⟩
  obtain ⟨v3, w3, hr3, o3, s3⟩ := lay_run (x := x) 0 rfl s2 b2 hz.out (by decide : 8 ≤ 8) (by decide) hd.out
  have HR3 := Lib.hid hr3
  have O3 := Lib.hid o3
  have S3 := Lib.hid s3
  have hsl : ∀ w, (Instr.sliceAt 46 (.slice (some ⟨g, 0, none⟩) 8 8) (some (.int .i64 0)) none none).run Tryz.prog w = .ok (.slice (some ⟨g, 0, none⟩) 8 8) w := fun w => by
    have := run_cut (P := Tryz.prog) Tryz.underlying46 elem_one w (some ⟨g, 0, none⟩) 8 8 0 0 rfl (by decide)
    have e : cutA (some ⟨g, 0, none⟩) 0 8 = some ⟨g, 0, none⟩ := by
      unfold cutA
      rw [if_neg (by decide)]
      show some ((⟨g, 0, none⟩ : Addr).add 0) = _
      rw [Addr.add_mid, Nat.zero_add]
    rwa [e] at this
  have hww : IntKind.i64.wrap 0 = 0 := rfl
  clear hr3 o3 s3 b2 s2 HP hd hz
  go_wp2_with fail
  go_region_held3 (fun _ => True) (trivial) ((first | (refine step_append_run rfl rfl HR3.out rfl rfl ?_) | (refine (HI.out _).mono ?_; rintro e w' ⟨rfl, rfl⟩)))
  all_goals go_wp2_with fail
  all_goals go_ret
  all_goals exact ⟨_, rfl, O3.out, S3.out⟩
end Go.Proofs.YtgbbgdjdomkohaaGreat

/- Package head: Put, PutFloat; the document's. -/
namespace Go.Proofs.YtgbbgdjdomkohaaGreat
open Go.RowKit

theorem Own.base {w : World} {B B' : Nat} {k : IntKind} {e : TypeId} {v : Value} {zs : List Int} (h : Own w B k e v zs) (hB : B' ≤ B) : Own w B' k e v zs :=
  ⟨h.1, h.2.imp id fun ⟨g, cap, cur, h1, h2, h3⟩ => ⟨g, cap, cur, h1, Nat.le_trans hB h2, h3⟩⟩
def PutPost (w : World) (l : List Int) (e : Ending) (w' : World) : Prop := ∃ v, e = .returned v ∧ Own w' w.heap.size .u8 5 v l ∧ Below w.heap.size w w'
theorem head_lay (m W a : Int) (hm0 : 0 ≤ m) (hm7 : m ≤ 7) (h0 : 0 ≤ a) (hW : (W = 0 ∧ a < 24) ∨ W = 1 ∨ W = 2 ∨ W = 4 ∨ W = 8) (w : World) :
    Calls Tryz.prog 60 #[.int .i64 m, .int .u64 a, .int .i64 W] w fun e w' => PutPost w (hlay m W a) e w' := by
  rcases hW with ⟨rfl, h⟩ | rfl | rfl | rfl | rfl
  · exact head_lay0 m a hm0 hm7 h0 h w
  · exact head_lay1 m a hm0 hm7 h0 w
  · exact head_lay2 m a hm0 hm7 h0 w
  · exact head_lay4 m a hm0 hm7 h0 w
  · exact head_lay8 m a hm0 hm7 h0 w
theorem leastW_in (a : Int) : (leastW a = 0 ∧ a < 24) ∨ leastW a = 1 ∨ leastW a = 2 ∨ leastW a = 4 ∨ leastW a = 8 := by
  unfold leastW
  (repeat' split) <;> simp <;> omega
set_option maxHeartbeats 1000000 in
theorem head_Put (M m a : Int) (hM : M % 8 = m) (h0 : 0 ≤ a) (h1 : a < 18446744073709551616) (w : World) :
    Calls Tryz.prog 51 #[.int .i64 M, .int .u64 a] w fun e w' => PutPost w (hputL m a) e w' := by
  have HA : bits .and .i64 M 7 = m := by rw [← hM]; exact and_mask M 3 (by decide)
  have hm0 : 0 ≤ m := by omega
  have hm7 : m ≤ 7 := by omega
  by_cases h7 : m = 7 ∧ 24 ≤ a ∧ (a < 32 ∨ 255 < a)
  · have e : hputL m a = [] := by unfold hputL; rw [if_pos h7]
    rw [e]
    obtain ⟨rfl, h24, hh⟩ := h7
    clear e hM
    by_cases h255 : 255 < a
    · clear hh
      go_enter Tryz.func51, Tryz.ntmps51
      go_wp2_with fail
      go_ret
      exact ⟨_, rfl, Own.nil _ _ _ _, Below.refl _ _⟩
    · have h32 : a < 32 := by omega
      clear hh
      go_enter Tryz.func51, Tryz.ntmps51
      go_wp2_with fail
      go_ret
      exact ⟨_, rfl, Own.nil _ _ _ _, Below.refl _ _⟩
  · have e : hputL m a = hlay m (leastW a) a := by unfold hputL; rw [if_neg h7]
    rw [e]
    clear e
    have HL := Lib.hid (head_least a h0 h1)
    have HP := Lib.hid (head_lay m (leastW a) a hm0 hm7 h0 (leastW_in a))
    generalize leastW a = W at *
    generalize hlay m W a = l at *
    by_cases hm : m = 7
    · subst hm
      by_cases h24 : 24 ≤ a
      · have h32 : 32 ≤ a := by omega
        have h255 : a ≤ 255 := by omega
        clear h7 hM
        go_enter Tryz.func51, Tryz.ntmps51
        go_wp2_with (go_at_call 61; with_reducible refine (HL.out _).mono ?_; rintro e w' ⟨rfl, rfl⟩)
        refine (HP.out _).mono ?_
        rintro e w' ⟨v, rfl, o, s⟩
        go_wp2_with fail
        go_ret
        exact ⟨_, rfl, o, s⟩
      · clear h7 hM
        go_enter Tryz.func51, Tryz.ntmps51
        go_wp2_with (go_at_call 61; with_reducible refine (HL.out _).mono ?_; rintro e w' ⟨rfl, rfl⟩)
        refine (HP.out _).mono ?_
        rintro e w' ⟨v, rfl, o, s⟩
        go_wp2_with fail
        go_ret
        exact ⟨_, rfl, o, s⟩
    · clear h7 hM
      go_enter Tryz.func51, Tryz.ntmps51
      go_wp2_with (go_at_call 61; with_reducible refine (HL.out _).mono ?_; rintro e w' ⟨rfl, rfl⟩)
      refine (HP.out _).mono ?_
      rintro e w' ⟨v, rfl, o, s⟩
      go_wp2_with fail
      go_ret
      exact ⟨_, rfl, o, s⟩
/-- The bytes of a shortest float's head. -/
def FPost (x : Nat) (w : World) (e : Ending) (w' : World) : Prop := ∃ z k : Nat, Shortest x z k ∧ PutPost w (hlay 7 k z) e w'
theorem sh_wid {x z k : Nat} (h : Shortest x z k) : k = 2 ∨ k = 4 ∨ k = 8 := by
  rcases h with ⟨_, _, h⟩ | ⟨_, ⟨h, _⟩ | ⟨h, _⟩ | ⟨h, _⟩⟩ <;> omega
set_option maxHeartbeats 1000000 in
theorem head_PutFloat (x : Nat) (hx : x < 2 ^ 64) (w : World) :
    Calls Tryz.prog 52 #[.int .u64 x] w fun e w' => FPost x w e w' := by
  have HS := Lib.hid (float_Shortest x hx)
  have HX := Lib.hid (fun (_ : Unit) => (rfl : x = x))
  clear hx
  generalize hxl : (x : Int) = xl at *
  clear hxl
  go_enter Tryz.func52, Tryz.ntmps52
  go_wp2_with fail
  refine (HS.out _).mono ?_
  rintro e w1 ⟨⟨z, k, rfl, hs⟩, s1⟩
  have hk := sh_wid hs
  have HP := Lib.hid (head_lay 7 k z (by decide) (by decide) (by omega) (by omega))
  have HSS := Lib.hid (fun (_ : Unit) => hs)
  have HS1 := Lib.hid s1
  clear hs hk s1
  generalize hzl : (z : Int) = zl at *
  generalize hkl : (k : Int) = kl at *
  have HZ := Lib.hid (fun (_ : Unit) => And.intro hzl hkl)
  clear hzl hkl
  go_wp2_with fail
  refine (HP.out _).mono ?_
  rintro e w' ⟨v, rfl, o, s⟩
  have HO := Lib.hid (Own.base o HS1.out.size)
  have HSW := Lib.hid (HS1.out.trans (s.mono HS1.out.size))
  clear o s
  go_wp2_with fail
  go_ret
  obtain ⟨hzl, hkl⟩ := HZ.out ()
  exact ⟨z, k, HSS.out (), v, rfl, by rw [hzl, hkl]; exact HO.out, HSW.out⟩
end Go.Proofs.YtgbbgdjdomkohaaGreat
