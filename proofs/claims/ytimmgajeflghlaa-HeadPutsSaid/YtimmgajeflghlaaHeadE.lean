
/- Package head: a walk's states, plainly. -/
import Derived.Test.YtimmgajeflghlaaHeadP
namespace Go.Proofs.Ytimmgajeflghlaa

/-- The state behind the first k bytes of L, as long as no head has ended. -/
def HSt (L : List Int) (k : Nat) (q : HQ) : Prop :=
  (k = 0 ∧ q = hq0) ∨
  (1 ≤ k ∧ k ≤ L.length ∧ 24 ≤ L.getD 0 0 % 32 ∧ L.getD 0 0 % 32 < 28 ∧ (k : Int) ≤ hwid (L.getD 0 0 % 32) ∧
    q = ⟨L.getD 0 0 / 32, hwid (L.getD 0 0 % 32), big 18446744073709551616 (pad (L.drop 1) (k - 1)), hwid (L.getD 0 0 % 32) - k + 1, true, 0⟩)
theorem HSt.ok {L : List Int} {k : Nat} {q : HQ} (h : HSt L k q) : HOk q ∧ (q.wrong = 0 → q.opn = true → 0 < q.left) := by
  rcases h with ⟨_, rfl⟩ | ⟨h1, _, h2, h3, h4, rfl⟩
  · exact ⟨by unfold HOk hq0; simp, fun _ h => by cases h⟩
  · have hr := big_range 18446744073709551616 (pad (L.drop 1) (k - 1)) (by decide)
    have hw : hwid (L.getD 0 0 % 32) ≤ 8 := by rcases hwid_of _ h2 h3 with ⟨_, h⟩ | ⟨_, h⟩ | ⟨_, h⟩ | ⟨_, h⟩ <;> omega
    unfold HOk
    dsimp only
    exact ⟨⟨hr.1, hr.2, by omega, by omega⟩, fun _ _ => by omega⟩
theorem leastW_small {a : Int} (h : a < 24) : leastW a = 0 := by unfold leastW; rw [if_pos h]
theorem hread_nil {L : List Int} (h : L.length = 0) : hread L = hnone 0 9 := by unfold hread; rw [if_pos h]
theorem hread_bad {L : List Int} (h : 0 < L.length) (hi : 28 ≤ L.getD 0 0 % 32) : hread L = hnone 0 (hbad (L.getD 0 0 / 32) (L.getD 0 0 % 32)) := by
  unfold hread; rw [if_neg (by omega), if_pos hi]
theorem hread_small {L : List Int} (h : 0 < L.length) (hi : L.getD 0 0 % 32 < 24) : hread L = ⟨L.getD 0 0 / 32, 0, L.getD 0 0 % 32, 1, -1, 0⟩ := by
  unfold hread; rw [if_neg (by omega), if_neg (by omega), if_pos hi]
theorem hread_cut {L : List Int} (h : 0 < L.length) (hi : 24 ≤ L.getD 0 0 % 32) (hi' : L.getD 0 0 % 32 < 28) (hl : (L.length : Int) ≤ hwid (L.getD 0 0 % 32)) : hread L = hnone L.length 9 := by
  unfold hread; rw [if_neg (by omega), if_neg (by omega), if_neg (by omega), if_pos hl]
theorem hread_simple {L : List Int} (h : 0 < L.length) (hi : 24 ≤ L.getD 0 0 % 32) (hi' : L.getD 0 0 % 32 < 28) (hl : ¬ (L.length : Int) ≤ hwid (L.getD 0 0 % 32))
    (hs : L.getD 0 0 / 32 = 7 ∧ hwid (L.getD 0 0 % 32) = 1 ∧ harg L (hwid (L.getD 0 0 % 32)) < 32) : hread L = hnone 1 2 := by
  unfold hread; rw [if_neg (by omega), if_neg (by omega), if_neg (by omega), if_neg hl, if_pos hs]
theorem hread_whole {L : List Int} (h : 0 < L.length) (hi : 24 ≤ L.getD 0 0 % 32) (hi' : L.getD 0 0 % 32 < 28) (hl : ¬ (L.length : Int) ≤ hwid (L.getD 0 0 % 32))
    (hs : ¬ (L.getD 0 0 / 32 = 7 ∧ hwid (L.getD 0 0 % 32) = 1 ∧ harg L (hwid (L.getD 0 0 % 32)) < 32)) :
    hread L = hlong (L.getD 0 0 / 32) (hwid (L.getD 0 0 % 32)) (harg L (hwid (L.getD 0 0 % 32))) := by
  unfold hread; rw [if_neg (by omega), if_neg (by omega), if_neg (by omega), if_neg hl, if_neg hs]
theorem HSt.last {L : List Int} {q : HQ} (h : HSt L L.length q) : hread L = hnone L.length 9 := by
  rcases h with ⟨h0, rfl⟩ | ⟨h1, _, h2, h3, h4, _⟩
  · rw [hread_nil h0, h0]; rfl
  · exact hread_cut h1 h2 h3 h4
/-- What one more byte comes to. -/
inductive HNext (L : List Int) (k : Nat) (q : HQ) : Bool → Int → HQ → Prop
  | bad (e : Int) (q' : HQ) (he : e ≠ 0) (h : hread L = hnone k e) : HNext L k q false e q'
  | long (q' : HQ) (h : (hread L).place = k) (he : (hread L).e = 5) : HNext L k q true 5 q'
  | whole (q' : HQ) (h : hread L = ⟨q'.major, q'.width, q'.arg, k + 1, -1, 0⟩) (ho : q'.opn = false) : HNext L k q true 0 q'
  | more (q' : HQ) (h : HSt L (k + 1) q') : HNext L k q false 0 q'
theorem HSt.step {L : List Int} {k : Nat} {q : HQ} (h : HSt L k q) (hk : k < L.length) : HNext L k q (hdone q (L.getD k 0)) (herr q (L.getD k 0)) (hstep q (L.getD k 0)) := by
  unfold hdone herr hstep
  rcases h with ⟨rfl, rfl⟩ | ⟨h1, hkl, h2, h3, h4, rfl⟩
  · have e0 : hmid hq0 (L.getD 0 0) = hbeg (L.getD 0 0 / 32) (L.getD 0 0 % 32) := rfl
    rw [e0]
    by_cases hi : 28 ≤ L.getD 0 0 % 32
    · have hR := hread_bad hk hi
      have e1 : hbeg (L.getD 0 0 / 32) (L.getD 0 0 % 32) = ⟨L.getD 0 0 / 32, 0, 0, 0, true, hbad (L.getD 0 0 / 32) (L.getD 0 0 % 32)⟩ := by unfold hbeg; rw [if_pos hi]
      have hb := hbad_ne (m := L.getD 0 0 / 32) hi
      rw [e1]
      generalize hbad (L.getD 0 0 / 32) (L.getD 0 0 % 32) = b at *
      have hm : (HQ.mk (L.getD 0 0 / 32) 0 0 0 true b).more := Or.inl (by show b ≠ 0; omega)
      rw [if_pos hm, if_pos hm]
      simp only [hm, decide_true, Bool.not_true]
      exact .bad b _ (by omega) hR
    by_cases hs : L.getD 0 0 % 32 < 24
    · have hR := hread_small hk hs
      have e1 : hbeg (L.getD 0 0 / 32) (L.getD 0 0 % 32) = ⟨L.getD 0 0 / 32, 0, L.getD 0 0 % 32, 0, true, 0⟩ := by unfold hbeg; rw [if_neg hi, if_pos hs]
      rw [e1]
      have hm : ¬ (HQ.mk (L.getD 0 0 / 32) 0 (L.getD 0 0 % 32) 0 true 0).more := fun h => by rcases h with h | h; exact h rfl; exact absurd h (by show ¬ (0 : Int) < 0; decide)
      have hsh : hshort (L.getD 0 0 / 32) 0 (L.getD 0 0 % 32) = true := by unfold hshort; rw [if_neg (by omega), leastW_small hs]; rfl
      rw [if_neg hm, if_neg hm]
      dsimp only
      rw [hsh]
      simp only [hm, decide_false, Bool.not_false, if_true]
      exact .whole _ (by rw [hR]; rfl) rfl
    · have e1 : hbeg (L.getD 0 0 / 32) (L.getD 0 0 % 32) = ⟨L.getD 0 0 / 32, hwid (L.getD 0 0 % 32), 0, hwid (L.getD 0 0 % 32), true, 0⟩ := by unfold hbeg; rw [if_neg hi, if_neg hs]
      rw [e1]
      have hw : 1 ≤ hwid (L.getD 0 0 % 32) := by rcases hwid_of _ (by omega : 24 ≤ L.getD 0 0 % 32) (by omega) with ⟨_, h⟩ | ⟨_, h⟩ | ⟨_, h⟩ | ⟨_, h⟩ <;> omega
      have hm : (HQ.mk (L.getD 0 0 / 32) (hwid (L.getD 0 0 % 32)) 0 (hwid (L.getD 0 0 % 32)) true 0).more := Or.inr (by show 0 < hwid _; omega)
      rw [if_pos hm, if_pos hm]
      simp only [hm, decide_true, Bool.not_true]
      refine .more _ (Or.inr ⟨by omega, hk, by omega, by omega, by omega, ?_⟩)
      congr 1
      omega
  · have e0 : hmid ⟨L.getD 0 0 / 32, hwid (L.getD 0 0 % 32), big 18446744073709551616 (pad (L.drop 1) (k - 1)), hwid (L.getD 0 0 % 32) - k + 1, true, 0⟩ (L.getD k 0) =
        ⟨L.getD 0 0 / 32, hwid (L.getD 0 0 % 32), big 18446744073709551616 (pad (L.drop 1) k), hwid (L.getD 0 0 % 32) - k, true, if L.getD 0 0 / 32 = 7 ∧ hwid (L.getD 0 0 % 32) = 1 ∧ big 18446744073709551616 (pad (L.drop 1) k) < 32 then 2 else 0⟩ := by
      have hb : (big 18446744073709551616 (pad (L.drop 1) (k - 1)) * 256 + L.getD k 0) % 18446744073709551616 = big 18446744073709551616 (pad (L.drop 1) k) := by
        have := big_pad 18446744073709551616 (L.drop 1) (k - 1)
        rw [show k - 1 + 1 = k by omega] at this
        rw [this]
        congr 2
        simp only [List.getD_eq_getElem?_getD, List.getElem?_drop]
        rw [show 1 + (k - 1) = k by omega]
      unfold hmid hfollow
      rw [if_neg (by simp), if_pos rfl]
      dsimp only
      rw [hb]
      congr 1
      omega
    rw [e0]
    by_cases hs : L.getD 0 0 / 32 = 7 ∧ hwid (L.getD 0 0 % 32) = 1 ∧ big 18446744073709551616 (pad (L.drop 1) k) < 32
    · rw [if_pos hs]
      have hk1 : k = 1 := by omega
      subst hk1
      have hR := hread_simple (by omega) h2 h3 (by omega) (by unfold harg; rw [hs.2.1]; exact ⟨hs.1, rfl, hs.2.2⟩)
      have hm : (HQ.mk (L.getD 0 0 / 32) (hwid (L.getD 0 0 % 32)) (big 18446744073709551616 (pad (L.drop 1) 1)) (hwid (L.getD 0 0 % 32) - (1 : Nat)) true 2).more := Or.inl (by show (2 : Int) ≠ 0; decide)
      rw [if_pos hm, if_pos hm]
      simp only [hm, decide_true, Bool.not_true]
      exact .bad 2 _ (by decide) hR
    · rw [if_neg hs]
      by_cases hlt : (k : Int) < hwid (L.getD 0 0 % 32)
      · have hm : (HQ.mk (L.getD 0 0 / 32) (hwid (L.getD 0 0 % 32)) (big 18446744073709551616 (pad (L.drop 1) k)) (hwid (L.getD 0 0 % 32) - k) true 0).more := Or.inr (by show 0 < hwid _ - (k : Int); omega)
        rw [if_pos hm, if_pos hm]
        simp only [hm, decide_true, Bool.not_true]
        refine .more _ (Or.inr ⟨by omega, hk, h2, h3, by omega, ?_⟩)
        rw [show k + 1 - 1 = k by omega]
        congr 1
        omega
      · have hkw : (k : Int) = hwid (L.getD 0 0 % 32) := by omega
        have hkn : (hwid (L.getD 0 0 % 32)).toNat = k := by omega
        have hm : ¬ (HQ.mk (L.getD 0 0 / 32) (hwid (L.getD 0 0 % 32)) (big 18446744073709551616 (pad (L.drop 1) k)) (hwid (L.getD 0 0 % 32) - k) true 0).more := fun h => by
          rcases h with h | h
          · exact h rfl
          · exact absurd h (by show ¬ 0 < hwid _ - (k : Int); omega)
        have hR := hread_whole (L := L) (by omega) h2 h3 (by omega) (by unfold harg; rw [hkn]; exact hs)
        unfold harg at hR
        rw [hkn] at hR
        rw [if_neg hm, if_neg hm]
        simp only [hm, decide_false, Bool.not_false]
        cases hb : hshort (L.getD 0 0 / 32) (hwid (L.getD 0 0 % 32)) (big 18446744073709551616 (pad (L.drop 1) k)) with
        | true =>
          unfold hlong at hR
          rw [hb] at hR
          rw [if_pos rfl]
          refine .whole _ ?_ rfl
          rw [hR, ← hkw]
          congr 1
          omega
        | false =>
          unfold hlong at hR
          rw [hb] at hR
          rw [if_neg (by decide)]
          refine .long _ ?_ ?_
          · rw [hR]; exact hkw.symm
          · rw [hR]; rfl
end Go.Proofs.Ytimmgajeflghlaa
