/- Floats: what the laws meet: the document's examples, a NaN's and a number's own shortest form. -/
import Derived.Test.YtgcgidoikpbfpaaGreatKAJ
import Derived.Test.YtgcgidoikpbfpaaGreatKAK
import Derived.Test.YtgcgidoikpbfpaaGreatKAM
import Derived.Test.YtgcgidoikpbfpaaGreatRows
import Derived.Test.YtgcgidoikpbfpaaGreatKAB
import Derived.Test.YtgcgidoikpbfpaaGreatKAC
import Derived.StillTailTactics
namespace Go.Proofs.YtgcgidoikpbfpaaGreat
open Go.RowKit
theorem nan_half : FNan 5 10 32256 := by unfold FNan fex ffr; decide
theorem sh_wd {x y v : Nat} (h : Shortest x y v) (hx : x < 2 ^ 64) : y < 2 ^ 64 ∧ Wd v y (if FNan 11 52 x then 9221120237041090560 else x) ∧ IsShort v y := by
  rcases h with ⟨h, rfl, rfl⟩ | ⟨h, a⟩
  · have e : Wd (2 : Nat) 32256 9221120237041090560 := Or.inl ⟨rfl, widen_nan (by decide) nan_half⟩
    rw [if_pos h]
    exact ⟨by decide, e, _, 2, e, sh_nan nan_wide, rfl⟩
  · rw [if_neg h]
    have key : Wd v y x → Shortest x y v → IsShort v y := fun e s => ⟨x, v, e, s, rfl⟩
    have hs : Shortest x y v := Or.inr ⟨h, a⟩
    rcases a with ⟨rfl, a⟩ | ⟨rfl, a, _⟩ | ⟨rfl, rfl, _, _⟩
    · have e : Wd (2 : Nat) y x := Or.inl ⟨rfl, a⟩
      exact ⟨by have := a.1; omega, e, key e hs⟩
    · have e : Wd (4 : Nat) y x := Or.inr (Or.inl ⟨rfl, a⟩)
      exact ⟨by have := a.1; omega, e, key e hs⟩
    · have e : Wd (8 : Nat) y y := Or.inr (Or.inr ⟨rfl, widen_self hx h⟩)
      exact ⟨hx, e, key e hs⟩
theorem one_short : Shortest 4607182418800017408 15360 2 := by
  refine Or.inr ⟨by unfold FNan fex ffr; decide, Or.inl ⟨rfl, ?_⟩⟩
  have := widen_normal (y := 15360) .half (by decide) (by unfold fex; decide) (by unfold fex; decide)
  have e : fsg 5 10 15360 * 2 ^ 63 + (fex 5 10 15360 + (1023 - (2 ^ (5 - 1) - 1))) * 2 ^ 52 + ffr 10 15360 * 2 ^ (52 - 10) = 4607182418800017408 := by unfold fsg fex ffr; decide
  rw [e] at this
  exact this
theorem tenth_nan : ¬ FNan 11 52 4591870180066957722 := by unfold FNan fex ffr; decide
theorem tenth_half (y : Nat) : ¬ Wide 5 10 1050 y 4591870180066957722 := by
  intro h
  have h1 := (wide_small .half (by decide) h tenth_nan).2.2 (by unfold fex; decide) (by unfold fex; decide)
  have e : fsg 11 52 4591870180066957722 * 2 ^ (5 + 10) + (fex 11 52 4591870180066957722 + (2 ^ (5 - 1) - 1) - 1023) * 2 ^ 10 + ffr 52 4591870180066957722 / 2 ^ (52 - 10) = 11878 := by unfold fsg fex ffr; decide
  rw [e] at h1
  rw [← h1] at h
  have h2 := widen_normal (y := 11878) .half (by decide) (by unfold fex; decide) (by unfold fex; decide)
  have := wide_fun .half h h2
  unfold fsg fex ffr at this
  revert this
  decide
theorem tenth_single (y : Nat) : ¬ Wide 8 23 925 y 4591870180066957722 := by
  intro h
  have h1 := (wide_small .single (by decide) h tenth_nan).2.2 (by unfold fex; decide) (by unfold fex; decide)
  have e : fsg 11 52 4591870180066957722 * 2 ^ (8 + 23) + (fex 11 52 4591870180066957722 + (2 ^ (8 - 1) - 1) - 1023) * 2 ^ 23 + ffr 52 4591870180066957722 / 2 ^ (52 - 23) = 1036831948 := by unfold fsg fex ffr; decide
  rw [e] at h1
  rw [← h1] at h
  have h2 := widen_normal (y := 1036831948) .single (by decide) (by unfold fex; decide) (by unfold fex; decide)
  have := wide_fun .single h h2
  unfold fsg fex ffr at this
  revert this
  decide
theorem tenth_short : Shortest 4591870180066957722 4591870180066957722 8 := Or.inr ⟨tenth_nan, Or.inr (Or.inr ⟨rfl, rfl, tenth_half, tenth_single⟩)⟩
end Go.Proofs.YtgcgidoikpbfpaaGreat

/- Package head: heads that are read again, plainly. -/
namespace Go.Proofs.YtgcgidoikpbfpaaGreat
open Go.RowKit

theorem le_cons' (n : Nat) (x : Int) : le (n + 1) x = x % 256 :: le n (x / 256) := by
  apply List.ext_getElem
  · simp [le]
  · intro i h1 h2
    rcases i with _ | i
    · simp [le]
    · simp only [le, List.getElem_map, List.getElem_range, List.getElem_cons_succ]
      rw [Int.pow_succ, Int.mul_comm, Int.ediv_ediv_of_nonneg (by decide)]
theorem big_le' (M : Int) : ∀ (n : Nat) (x : Int), 0 ≤ x → x < 256 ^ n → (256 : Int) ^ n ≤ M → big M (le n x).reverse = x
  | 0, x, h0, h1, _ => by
    simp at h1
    have : x = 0 := by omega
    subst this; rfl
  | n + 1, x, h0, h1, hM => by
    have hp : (0 : Int) < 256 ^ n := Int.pow_pos (by decide)
    rw [Int.pow_succ] at h1 hM
    rw [le_cons', List.reverse_cons, big_snoc, big_le' M n (x / 256) (by omega) (by omega) (by omega), Int.emod_eq_of_lt (by omega) (by omega)]
    omega
theorem le_big (M : Int) : ∀ (n : Nat) (l : List Int), ByteL l → l.length = n → (256 : Int) ^ n ≤ M → 0 ≤ big M l ∧ big M l < 256 ^ n ∧ (le n (big M l)).reverse = l
  | 0, l, _, hl, _ => by
    have : l = [] := List.length_eq_zero_iff.1 hl
    subst this
    exact ⟨by rw [big_nil]; decide, by rw [big_nil]; decide, rfl⟩
  | n + 1, l, hb, hl, hM => by
    have hp : (0 : Int) < 256 ^ n := Int.pow_pos (by decide)
    rcases List.eq_nil_or_concat l with rfl | ⟨a, c, rfl⟩
    · simp at hl
    · rw [List.concat_eq_append] at *
      have hla : a.length = n := by simpa using hl
      rw [Int.pow_succ] at hM
      obtain ⟨i0, i1, ie⟩ := le_big M n a (fun x hx => hb x (List.mem_append_left _ hx)) hla (by omega)
      have hc := hb c (by simp)
      have e : big M (a ++ [c]) = big M a * 256 + c := by rw [big_snoc, Int.emod_eq_of_lt (by omega) (by omega)]
      rw [e, Int.pow_succ]
      refine ⟨by omega, by omega, ?_⟩
      rw [le_cons', List.reverse_cons, show (big M a * 256 + c) / 256 = big M a by omega, show (big M a * 256 + c) % 256 = c by omega, ie]
theorem pad_cut (l : List Int) (n : Nat) (h : n ≤ l.length) : pad l n = l.take n := by
  apply List.ext_getElem
  · simp [pad, h]
  · intro i h1 h2
    have : i < n := by simpa [pad] using h1
    simp [pad, List.getD, show i < l.length by omega]
theorem hinf_of (i : Int) (a : Int) (h : 24 ≤ i) (h' : i < 28) : hinf (hwid i) a = i := by
  have : i = 24 ∨ i = 25 ∨ i = 26 ∨ i = 27 := by omega
  rcases this with rfl | rfl | rfl | rfl <;> rfl
/-- What of a head that is whole can be said. -/
theorem hread_ok {L : List Int} {r : HR} (hb : ByteL L) (hr : hread L = r) (he : r.e = 0) :
    0 ≤ r.major ∧ r.major ≤ 7 ∧ 0 ≤ r.arg ∧ r.arg < 18446744073709551616 ∧ r.place = -1 ∧ r.many = 1 + r.width ∧ 1 ≤ r.many ∧ r.many ≤ L.length ∧ (¬ (r.major = 7 ∧ 1 < r.width) → hputL r.major r.arg = L.take r.many.toNat) := by
  by_cases h0 : L.length = 0
  · rw [hread_nil h0] at hr
    subst hr
    cases he
  have hc := hb.get 0
  by_cases h28 : 28 ≤ L.getD 0 0 % 32
  · rw [hread_bad (by omega) h28] at hr
    subst hr
    have h1 := hbad_ne (m := L.getD 0 0 / 32) h28
    have he : hbad (L.getD 0 0 / 32) (L.getD 0 0 % 32) = 0 := he
    omega
  have hL1 : L.take 1 = [L.getD 0 0] := by
    have := take_snoc L 0 (by omega)
    simpa using this
  by_cases h24 : L.getD 0 0 % 32 < 24
  · rw [hread_small (by omega) h24] at hr
    subst hr
    dsimp only
    refine ⟨by omega, by omega, by omega, by omega, rfl, by decide, by decide, by omega, fun _ => ?_⟩
    show hputL _ _ = L.take 1
    unfold hputL
    rw [if_neg (by omega), leastW_small h24, hL1]
    show [L.getD 0 0 / 32 * 32 + L.getD 0 0 % 32] = _
    congr 1
    omega
  by_cases hcut : (L.length : Int) ≤ hwid (L.getD 0 0 % 32)
  · rw [hread_cut (by omega) (by omega) (by omega) hcut] at hr
    subst hr
    cases he
  by_cases hs : L.getD 0 0 / 32 = 7 ∧ hwid (L.getD 0 0 % 32) = 1 ∧ harg L (hwid (L.getD 0 0 % 32)) < 32
  · rw [hread_simple (by omega) (by omega) (by omega) hcut hs] at hr
    subst hr
    cases he
  rw [hread_whole (by omega) (by omega) (by omega) hcut hs] at hr
  have hinf := fun a => hinf_of (L.getD 0 0 % 32) a (by omega) (by omega)
  have hW : hwid (L.getD 0 0 % 32) = 1 ∨ hwid (L.getD 0 0 % 32) = 2 ∨ hwid (L.getD 0 0 % 32) = 4 ∨ hwid (L.getD 0 0 % 32) = 8 := by
    rcases hwid_of (L.getD 0 0 % 32) (by omega) (by omega) with ⟨_, h⟩ | ⟨_, h⟩ | ⟨_, h⟩ | ⟨_, h⟩ <;> omega
  have hpow : (256 : Int) ^ (hwid (L.getD 0 0 % 32)).toNat ≤ 18446744073709551616 := by
    rcases hW with h | h | h | h <;> rw [h] <;> decide
  have hlen : ((L.drop 1).take (hwid (L.getD 0 0 % 32)).toNat).length = (hwid (L.getD 0 0 % 32)).toNat := by
    rw [List.length_take, List.length_drop]; omega
  have hbt : ByteL ((L.drop 1).take (hwid (L.getD 0 0 % 32)).toNat) := fun c hc => hb c (List.mem_of_mem_drop (List.mem_of_mem_take hc))
  have hbig := le_big 18446744073709551616 _ _ hbt hlen hpow
  have harg' : harg L (hwid (L.getD 0 0 % 32)) = big 18446744073709551616 ((L.drop 1).take (hwid (L.getD 0 0 % 32)).toNat) := by
    unfold harg
    rw [pad_cut _ _ (by rw [List.length_drop]; omega)]
  rw [← harg'] at hbig
  have htk : L.take (1 + (hwid (L.getD 0 0 % 32)).toNat) = L.getD 0 0 :: (L.drop 1).take (hwid (L.getD 0 0 % 32)).toNat := by
    rw [List.take_add, hL1]; rfl
  rw [← hbig.2.2] at htk
  generalize hwid (L.getD 0 0 % 32) = W at *
  generalize harg L W = a at *
  unfold hlong at hr
  cases hsh : hshort (L.getD 0 0 / 32) W a with
  | false =>
    rw [hsh] at hr
    subst hr
    cases he
  | true =>
    rw [hsh] at hr
    subst hr
    dsimp only
    have h256 := hbig.2.1
    have hlt : a < 18446744073709551616 := by omega
    refine ⟨by omega, by omega, hbig.1, hlt, rfl, rfl, by omega, by omega, fun hm => ?_⟩
    have hle : W = leastW a := by
      unfold hshort at hsh
      rw [if_neg hm] at hsh
      exact of_decide_eq_true hsh
    have h24a : 24 ≤ a := by
      have := hle
      unfold leastW at this
      (repeat' split at this) <;> omega
    have hw7 : L.getD 0 0 / 32 = 7 → W = 1 := fun h => by omega
    have h255 : W = 1 → a ≤ 255 := fun h => by
      subst h
      have h256 : a < 256 := h256
      omega
    unfold hputL
    rw [if_neg (fun h => by
      have := hw7 h.1
      have := h255 this
      have := fun h' => hs ⟨h.1, ‹W = 1›, h'⟩
      omega), ← hle]
    rw [show (1 + W).toNat = 1 + W.toNat by omega, htk]
    unfold hlay
    rw [hinf]
    congr 1
    omega
end Go.Proofs.YtgcgidoikpbfpaaGreat

/- Package head: heads that were put are read again. -/
namespace Go.Proofs.YtgcgidoikpbfpaaGreat
open Go.RowKit

theorem hlay_length (m W a : Int) : (hlay m W a).length = 1 + W.toNat := by
  unfold hlay
  rw [List.length_cons, List.length_reverse, length_le]
  omega
theorem hwid_hinf {W : Int} (a : Int) (hW : W = 1 ∨ W = 2 ∨ W = 4 ∨ W = 8) : 24 ≤ hinf W a ∧ hinf W a < 28 ∧ hwid (hinf W a) = W := by
  rcases hW with rfl | rfl | rfl | rfl <;> exact ⟨by simp [hinf], by simp [hinf], rfl⟩
theorem hread_lay (m W a : Int) (r : List Int) (_hm0 : 0 ≤ m) (_hm7 : m ≤ 7) (hW : W = 1 ∨ W = 2 ∨ W = 4 ∨ W = 8) (h0 : 0 ≤ a) (h1 : a < 256 ^ W.toNat) (hs : ¬ (m = 7 ∧ W = 1 ∧ a < 32)) :
    hread (hlay m W a ++ r) = hlong m W a := by
  obtain ⟨i0, i1, iw⟩ := hwid_hinf a hW
  have hc : (hlay m W a ++ r).getD 0 0 = m * 32 + hinf W a := rfl
  have hlen : (hlay m W a ++ r).length = 1 + W.toNat + r.length := by rw [List.length_append, hlay_length]
  have hd : (hlay m W a ++ r).drop 1 = (le W.toNat a).reverse ++ r := rfl
  have hp : pad ((le W.toNat a).reverse ++ r) W.toNat = (le W.toNat a).reverse := by
    rw [pad_cut _ _ (by rw [List.length_append, List.length_reverse, length_le]; omega), List.take_append_of_le_length (by rw [List.length_reverse, length_le]; omega), List.take_of_length_le (by rw [List.length_reverse, length_le]; omega)]
  have ha : harg (hlay m W a ++ r) W = a := by
    unfold harg
    rw [hd, hp]
    refine big_le' _ _ _ h0 h1 ?_
    rcases hW with rfl | rfl | rfl | rfl <;> decide
  have e1 : (m * 32 + hinf W a) / 32 = m := by omega
  have e2 : (m * 32 + hinf W a) % 32 = hinf W a := by omega
  have := hread_whole (L := hlay m W a ++ r) (by omega) (by rw [hc, e2]; exact i0) (by rw [hc, e2]; exact i1) (by rw [hc, e2, iw]; omega) (by rw [hc, e1, e2, iw, ha]; exact hs)
  rw [hc, e1, e2, iw, ha] at this
  exact this
theorem hread_lay0 (m a : Int) (r : List Int) (_hm0 : 0 ≤ m) (_hm7 : m ≤ 7) (h0 : 0 ≤ a) (h1 : a < 24) : hread (hlay m 0 a ++ r) = ⟨m, 0, a, 1, -1, 0⟩ := by
  have hc : (hlay m 0 a ++ r).getD 0 0 = m * 32 + a := rfl
  have := hread_small (L := hlay m 0 a ++ r) (by rw [List.length_append, hlay_length]; omega) (by rw [hc]; omega)
  rw [hc, show (m * 32 + a) / 32 = m by omega, show (m * 32 + a) % 32 = a by omega] at this
  exact this
theorem hput_none {m a : Int} (h : hputL m a = []) : m = 7 := by
  unfold hputL at h
  split at h
  · omega
  · unfold hlay at h; cases h
theorem hput_some {m a : Int} (h : hputL m a ≠ []) : hputL m a = hlay m (leastW a) a ∧ ¬ (m = 7 ∧ 24 ≤ a ∧ (a < 32 ∨ 255 < a)) := by
  unfold hputL at h ⊢
  split
  · rename_i hh; rw [if_pos hh] at h; exact absurd rfl h
  · rename_i hh; exact ⟨rfl, hh⟩
theorem hread_put {m a : Int} (r : List Int) (hm0 : 0 ≤ m) (hm7 : m ≤ 7) (h0 : 0 ≤ a) (h1 : a < 18446744073709551616) (h : hputL m a ≠ []) :
    hread (hputL m a ++ r) = ⟨m, leastW a, a, (hputL m a).length, -1, 0⟩ := by
  obtain ⟨e, hn⟩ := hput_some h
  rw [e, hlay_length]
  by_cases h24 : a < 24
  · rw [leastW_small h24, hread_lay0 m a r hm0 hm7 h0 h24]; rfl
  · have hW : leastW a = 1 ∧ a < 256 ∨ leastW a = 2 ∧ a < 65536 ∧ 256 ≤ a ∨ leastW a = 4 ∧ a < 4294967296 ∧ 256 ≤ a ∨ leastW a = 8 ∧ 256 ≤ a := by
      unfold leastW
      (repeat' split) <;> omega
    have hw : 0 ≤ leastW a := by omega
    have hp : a < 256 ^ (leastW a).toNat := by
      rcases hW with ⟨e, h⟩ | ⟨e, h, _⟩ | ⟨e, h, _⟩ | ⟨e, _⟩ <;> rw [e]
      · exact h
      · exact h
      · exact h
      · exact h1
    rw [hread_lay m (leastW a) a r hm0 hm7 (by omega) h0 hp (by omega)]
    have hs : hshort m (leastW a) a = true := by
      unfold hshort
      rw [if_neg (by omega)]
      simp
    unfold hlong
    rw [hs]
    simp only [if_true]
    congr 1
    omega
theorem hread_float {x z k : Nat} (h : Shortest x z k) (hx : x < 2 ^ 64) : hread (hlay 7 k z) = ⟨7, k, z, (hlay 7 k z).length, -1, 0⟩ := by
  have hs : fshort (k : Int) (z : Int) = true := by
    unfold fshort
    have := (sh_wd h hx).2.2
    simpa using this
  have hk : ((k : Int) = 2 ∧ (z : Int) < 65536) ∨ ((k : Int) = 4 ∧ (z : Int) < 4294967296) ∨ (k : Int) = 8 := by
    rcases h with ⟨_, rfl, rfl⟩ | ⟨_, ⟨rfl, hw⟩ | ⟨rfl, hw, _⟩ | ⟨rfl, _⟩⟩
    · exact Or.inl ⟨rfl, by decide⟩
    · have := hw.1; exact Or.inl ⟨rfl, by omega⟩
    · have := hw.1; exact Or.inr (Or.inl ⟨rfl, by omega⟩)
    · exact Or.inr (Or.inr rfl)
  have hz : (z : Int) < 18446744073709551616 := by have := (sh_wd h hx).1; omega
  have hp : (z : Int) < 256 ^ ((k : Int)).toNat := by
    rcases hk with ⟨e, h⟩ | ⟨e, h⟩ | e <;> rw [e]
    · exact h
    · exact h
    · exact hz
  have := hread_lay 7 k z [] (by decide) (by decide) (by omega) (by omega) hp (by omega)
  rw [List.append_nil] at this
  rw [this, hlay_length]
  unfold hlong
  have e : hshort 7 k z = true := by
    unfold hshort
    rw [if_pos ⟨rfl, by omega⟩]
    exact hs
  rw [e]
  simp only [if_true]
  congr 1
theorem byte_le' (n : Nat) (x : Int) : ByteL (le n x) := byte_le n x
theorem byte_lay {m W a : Int} (hm0 : 0 ≤ m) (hm7 : m ≤ 7) (h : (W = 0 ∧ 0 ≤ a ∧ a < 24) ∨ W ≠ 0) : ByteL (hlay m W a) := fun c hc => by
  unfold hlay at hc
  rcases List.mem_cons.1 hc with rfl | hc
  · have : 0 ≤ hinf W a ∧ hinf W a < 32 := by unfold hinf; (repeat' split) <;> omega
    omega
  · exact byte_le _ _ c (List.mem_reverse.1 hc)
theorem byte_put {m a : Int} (hm0 : 0 ≤ m) (hm7 : m ≤ 7) (h0 : 0 ≤ a) : ByteL (hputL m a) := by
  unfold hputL
  split
  · intro c hc; cases hc
  · refine byte_lay hm0 hm7 ?_
    by_cases h : a < 24
    · exact Or.inl ⟨leastW_small h, h0, h⟩
    · refine Or.inr ?_
      unfold leastW
      (repeat' split) <;> omega
end Go.Proofs.YtgcgidoikpbfpaaGreat

/- Package head: small functions. -/
namespace Go.Proofs.YtgcgidoikpbfpaaGreat
open Go.RowKit

def LW (a W : Int) : Prop := W = 1 ∨ (W = 2 ∧ 256 ≤ a) ∨ (W = 4 ∧ 65536 ≤ a) ∨ (W = 8 ∧ 4294967296 ≤ a)
theorem head_least (a : Int) (h0 : 0 ≤ a) (h1 : a < 18446744073709551616) (w : World) :
    Calls Tryz.prog 61 #[.int .u64 a] w fun e w' => e = .returned (.int .i64 (leastW a)) ∧ w = w' := by
  by_cases h24 : a < 24
  · have e : leastW a = 0 := by unfold leastW; rw [if_pos h24]
    rw [e]
    clear e
    go_enter Tryz.func61, Tryz.ntmps61
    go_wp2
    go_ret
    exact ⟨rfl, rfl⟩
  · have HL : Hid (∀ W, LW a W → (W = 1 → a < 256) → (W = 2 → a < 65536) → (W = 4 → a < 4294967296) → W = leastW a) := by
      intro W hW h1 h2 h4
      unfold leastW
      rcases hW with rfl | ⟨rfl, _⟩ | ⟨rfl, _⟩ | ⟨rfl, _⟩ <;> (repeat' split) <;> omega
    go_enter Tryz.func61, Tryz.ntmps61
    go_wp2
    go_loop [3] (fun y => ∃ W : Int, y = .int .i64 W ∧ LW a W) (fun y => 8 - (intOf y).toNat)
    case atStart => exact ⟨1, rfl, Or.inl rfl⟩
    case round =>
      obtain ⟨W, rfl, hW⟩ := hrel
      have HW := Lib.hid hW
      rcases hW with rfl | ⟨rfl, hb⟩ | ⟨rfl, hb⟩ | ⟨rfl, hb⟩
      · by_cases hq : a / 256 = 0
        · go_wp2
          go_ret
          exact ⟨ret_num (HL.out _ HW.out (by omega) (by omega) (by omega)), rfl⟩
        · have hq' : (a / 256 == 0) = false := by simp [hq]
          go_wp2
          go_round
          case rel => exact ⟨2, rfl, Or.inr (Or.inl ⟨rfl, by omega⟩)⟩
          case measure => simp [intOf]
      · by_cases hq : a / 65536 = 0
        · go_wp2
          go_ret
          exact ⟨ret_num (HL.out _ HW.out (by omega) (by omega) (by omega)), rfl⟩
        · go_wp2
          go_round
          case rel => exact ⟨4, rfl, Or.inr (Or.inr (Or.inl ⟨rfl, by omega⟩))⟩
          case measure => simp [intOf]
      · by_cases hq : a / 4294967296 = 0
        · go_wp2
          go_ret
          exact ⟨ret_num (HL.out _ HW.out (by omega) (by omega) (by omega)), rfl⟩
        · go_wp2
          go_round
          case rel => exact ⟨8, rfl, Or.inr (Or.inr (Or.inr ⟨rfl, by omega⟩))⟩
          case measure => simp [intOf]
      · go_wp2
        go_ret
        exact ⟨ret_num (HL.out _ HW.out (by omega) (by omega) (by omega)), rfl⟩

theorem hblk {w : World} {g : Nat} {t : TypeId} {m W a l e : Int} {o : Bool} (h : Blk w g t (hcells ⟨m, W, a, l, o, e⟩)) :
    w.cell? ⟨g, 0, none⟩ = some (.int .i64 m) ∧ w.cell? ⟨g, 1, none⟩ = some (.int .i64 W) ∧ w.cell? ⟨g, 2, none⟩ = some (.int .u64 a) ∧ w.cell? ⟨g, 3, none⟩ = some (.int .i64 l) ∧ w.cell? ⟨g, 4, none⟩ = some (.bool o) ∧ w.cell? ⟨g, 5, none⟩ = some (.int .i64 e) ∧ (∀ i, w.frozen? ⟨g, i, none⟩ = false) :=
  ⟨h.cell 0, h.cell 1, h.cell 2, h.cell 3, h.cell 4, h.cell 5, h.free⟩
theorem hcells_one (q : HQ) : (hcells q).all (·.oneCell') = true := by
  rw [Array.all_eq_true_iff_forall_mem]
  intro x hx
  simp [hcells] at hx
  rcases hx with rfl | rfl | rfl | rfl | rfl | rfl <;> rfl
theorem hblk_put {w : World} {g : Nat} {t : TypeId} {q : HQ} (h : Blk w g t (hcells q)) (m W a l : Int) (o : Bool) (e : Int) :
    Blk ((((((w.setCell ⟨g, 0, none⟩ (.int .i64 m)).setCell ⟨g, 1, none⟩ (.int .i64 W)).setCell ⟨g, 2, none⟩ (.int .u64 a)).setCell ⟨g, 3, none⟩ (.int .i64 l)).setCell ⟨g, 4, none⟩ (.bool o)).setCell ⟨g, 5, none⟩ (.int .i64 e)) g t (hcells ⟨m, W, a, l, o, e⟩) :=
  (((((h.put 0 (.int .i64 m)).put 1 (.int .i64 W)).put 2 (.int .u64 a)).put 3 (.int .i64 l)).put 4 (.bool o)).put 5 (.int .i64 e)
theorem honly_put (g : Nat) (w : World) (x0 x1 x2 x3 x4 x5 : Value) :
    Only g w ((((((w.setCell ⟨g, 0, none⟩ x0).setCell ⟨g, 1, none⟩ x1).setCell ⟨g, 2, none⟩ x2).setCell ⟨g, 3, none⟩ x3).setCell ⟨g, 4, none⟩ x4).setCell ⟨g, 5, none⟩ x5) :=
  ((((((Only.refl g w).put 0 _).put 1 _).put 2 _).put 3 _).put 4 _).put 5 _
theorem and31 (c : Int) (h0 : 0 ≤ c) (h1 : c < 256) : bits .and .u8 c 31 = c % 32 := by
  obtain ⟨n, rfl⟩ := Int.eq_ofNat_of_zero_le h0
  have h : ∀ k : Fin 256, bits .and .u8 (k.val : Int) 31 = (k.val : Int) % 32 := by decide +kernel
  exact h ⟨n, by omega⟩
end Go.Proofs.YtgcgidoikpbfpaaGreat
