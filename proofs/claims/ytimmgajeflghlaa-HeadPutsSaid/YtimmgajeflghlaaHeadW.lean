
/- Package head: heads that were put are read again. -/
import Derived.Test.YtimmgajeflghlaaHeadI
namespace Go.Proofs.Ytimmgajeflghlaa
open Go.RowKit

theorem hlay_length (m W a : Int) : (hlay m W a).length = 1 + W.toNat := by
  unfold hlay
  rw [List.length_cons, List.length_reverse, length_le]
  omega
theorem hwid_hinf {W : Int} (a : Int) (hW : W = 1 ∨ W = 2 ∨ W = 4 ∨ W = 8) : 24 ≤ hinf W a ∧ hinf W a < 28 ∧ hwid (hinf W a) = W := by
  rcases hW with rfl | rfl | rfl | rfl <;> exact ⟨by simp [hinf], by simp [hinf], rfl⟩
theorem hread_lay (m W a : Int) (r : List Int) (_hm0 : 0 ≤ m) (_hm7 : m ≤ 7) (hW : W = 1 ∨ W = 2 ∨ W = 4 ∨ W = 8) (h0 : 0 ≤ a) (h1 : a < 256 ^ W.toNat) (hs : ¬ (m = 7 ∧ W = 1 ∧ a < 32)) :
    hread (hlay m W a ++ r) = hlong m W a := by
  obtain ⟨i0, i1, iw⟩ := hwid_hinf a hW
  have hc : (hlay m W a ++ r).getD 0 0 = m * 32 + hinf W a := rfl
  have hlen : (hlay m W a ++ r).length = 1 + W.toNat + r.length := by rw [List.length_append, hlay_length]
  have hd : (hlay m W a ++ r).drop 1 = (le W.toNat a).reverse ++ r := rfl
  have hp : pad ((le W.toNat a).reverse ++ r) W.toNat = (le W.toNat a).reverse := by
    rw [pad_cut _ _ (by rw [List.length_append, List.length_reverse, length_le]; omega), List.take_append_of_le_length (by rw [List.length_reverse, length_le]; omega), List.take_of_length_le (by rw [List.length_reverse, length_le]; omega)]
  have ha : harg (hlay m W a ++ r) W = a := by
    unfold harg
    rw [hd, hp]
    refine big_le' _ _ _ h0 h1 ?_
    rcases hW with rfl | rfl | rfl | rfl <;> decide
  have e1 : (m * 32 + hinf W a) / 32 = m := by omega
  have e2 : (m * 32 + hinf W a) % 32 = hinf W a := by omega
  have := hread_whole (L := hlay m W a ++ r) (by omega) (by rw [hc, e2]; exact i0) (by rw [hc, e2]; exact i1) (by rw [hc, e2, iw]; omega) (by rw [hc, e1, e2, iw, ha]; exact hs)
  rw [hc, e1, e2, iw, ha] at this
  exact this
theorem hread_lay0 (m a : Int) (r : List Int) (_hm0 : 0 ≤ m) (_hm7 : m ≤ 7) (h0 : 0 ≤ a) (h1 : a < 24) : hread (hlay m 0 a ++ r) = ⟨m, 0, a, 1, -1, 0⟩ := by
  have hc : (hlay m 0 a ++ r).getD 0 0 = m * 32 + a := rfl
  have := hread_small (L := hlay m 0 a ++ r) (by rw [List.length_append, hlay_length]; omega) (by rw [hc]; omega)
  rw [hc, show (m * 32 + a) / 32 = m by omega, show (m * 32 + a) % 32 = a by omega] at this
  exact this
theorem hput_none {m a : Int} (h : hputL m a = []) : m = 7 := by
  unfold hputL at h
  split at h
  · omega
  · unfold hlay at h; cases h
theorem hput_some {m a : Int} (h : hputL m a ≠ []) : hputL m a = hlay m (leastW a) a ∧ ¬ (m = 7 ∧ 24 ≤ a ∧ (a < 32 ∨ 255 < a)) := by
  unfold hputL at h ⊢
  split
  · rename_i hh; rw [if_pos hh] at h; exact absurd rfl h
  · rename_i hh; exact ⟨rfl, hh⟩
theorem hread_put {m a : Int} (r : List Int) (hm0 : 0 ≤ m) (hm7 : m ≤ 7) (h0 : 0 ≤ a) (h1 : a < 18446744073709551616) (h : hputL m a ≠ []) :
    hread (hputL m a ++ r) = ⟨m, leastW a, a, (hputL m a).length, -1, 0⟩ := by
  obtain ⟨e, hn⟩ := hput_some h
  rw [e, hlay_length]
  by_cases h24 : a < 24
  · rw [leastW_small h24, hread_lay0 m a r hm0 hm7 h0 h24]; rfl
  · have hW : leastW a = 1 ∧ a < 256 ∨ leastW a = 2 ∧ a < 65536 ∧ 256 ≤ a ∨ leastW a = 4 ∧ a < 4294967296 ∧ 256 ≤ a ∨ leastW a = 8 ∧ 256 ≤ a := by
      unfold leastW
      (repeat' split) <;> omega
    have hw : 0 ≤ leastW a := by omega
    have hp : a < 256 ^ (leastW a).toNat := by
      rcases hW with ⟨e, h⟩ | ⟨e, h, _⟩ | ⟨e, h, _⟩ | ⟨e, _⟩ <;> rw [e]
      · exact h
      · exact h
      · exact h
      · exact h1
    rw [hread_lay m (leastW a) a r hm0 hm7 (by omega) h0 hp (by omega)]
    have hs : hshort m (leastW a) a = true := by
      unfold hshort
      rw [if_neg (by omega)]
      simp
    unfold hlong
    rw [hs]
    simp only [if_true]
    congr 1
    omega
theorem hread_float {x z k : Nat} (h : Shortest x z k) (hx : x < 2 ^ 64) : hread (hlay 7 k z) = ⟨7, k, z, (hlay 7 k z).length, -1, 0⟩ := by
  have hs : fshort (k : Int) (z : Int) = true := by
    unfold fshort
    have := (sh_wd h hx).2.2
    simpa using this
  have hk : ((k : Int) = 2 ∧ (z : Int) < 65536) ∨ ((k : Int) = 4 ∧ (z : Int) < 4294967296) ∨ (k : Int) = 8 := by
    rcases h with ⟨_, rfl, rfl⟩ | ⟨_, ⟨rfl, hw⟩ | ⟨rfl, hw, _⟩ | ⟨rfl, _⟩⟩
    · exact Or.inl ⟨rfl, by decide⟩
    · have := hw.1; exact Or.inl ⟨rfl, by omega⟩
    · have := hw.1; exact Or.inr (Or.inl ⟨rfl, by omega⟩)
    · exact Or.inr (Or.inr rfl)
  have hz : (z : Int) < 18446744073709551616 := by have := (sh_wd h hx).1; omega
  have hp : (z : Int) < 256 ^ ((k : Int)).toNat := by
    rcases hk with ⟨e, h⟩ | ⟨e, h⟩ | e <;> rw [e]
    · exact h
    · exact h
    · exact hz
  have := hread_lay 7 k z [] (by decide) (by decide) (by omega) (by omega) hp (by omega)
  rw [List.append_nil] at this
  rw [this, hlay_length]
  unfold hlong
  have e : hshort 7 k z = true := by
    unfold hshort
    rw [if_pos ⟨rfl, by omega⟩]
    exact hs
  rw [e]
  simp only [if_true]
  congr 1
theorem byte_le' (n : Nat) (x : Int) : ByteL (le n x) := byte_le n x
theorem byte_lay {m W a : Int} (hm0 : 0 ≤ m) (hm7 : m ≤ 7) (h : (W = 0 ∧ 0 ≤ a ∧ a < 24) ∨ W ≠ 0) : ByteL (hlay m W a) := fun c hc => by
  unfold hlay at hc
  rcases List.mem_cons.1 hc with rfl | hc
  · have : 0 ≤ hinf W a ∧ hinf W a < 32 := by unfold hinf; (repeat' split) <;> omega
    omega
  · exact byte_le _ _ c (List.mem_reverse.1 hc)
theorem byte_put {m a : Int} (hm0 : 0 ≤ m) (hm7 : m ≤ 7) (h0 : 0 ≤ a) : ByteL (hputL m a) := by
  unfold hputL
  split
  · intro c hc; cases hc
  · refine byte_lay hm0 hm7 ?_
    by_cases h : a < 24
    · exact Or.inl ⟨leastW_small h, h0, h⟩
    · refine Or.inr ?_
      unfold leastW
      (repeat' split) <;> omega
end Go.Proofs.Ytimmgajeflghlaa
