/- Package head: a walk's states, plainly. -/
import Derived.Test.YtgbbgdjdomkohaaGreatKAH
import Derived.Test.YtgbbgdjdomkohaaGreatRows
import Derived.Test.YtgbbgdjdomkohaaGreatKAB
namespace Go.Proofs.YtgbbgdjdomkohaaGreat

/-- The state behind the first k bytes of L, as long as no head has ended. -/
def HSt (L : List Int) (k : Nat) (q : HQ) : Prop :=
  (k = 0 ∧ q = hq0) ∨
  (1 ≤ k ∧ k ≤ L.length ∧ 24 ≤ L.getD 0 0 % 32 ∧ L.getD 0 0 % 32 < 28 ∧ (k : Int) ≤ hwid (L.getD 0 0 % 32) ∧
    q = ⟨L.getD 0 0 / 32, hwid (L.getD 0 0 % 32), big 18446744073709551616 (pad (L.drop 1) (k - 1)), hwid (L.getD 0 0 % 32) - k + 1, true, 0⟩)
theorem HSt.ok {L : List Int} {k : Nat} {q : HQ} (h : HSt L k q) : HOk q ∧ (q.wrong = 0 → q.opn = true → 0 < q.left) := by
  rcases h with ⟨_, rfl⟩ | ⟨h1, _, h2, h3, h4, rfl⟩
  · exact ⟨by unfold HOk hq0; simp, fun _ h => by cases h⟩
  · have hr := big_range 18446744073709551616 (pad (L.drop 1) (k - 1)) (by decide)
    have hw : hwid (L.getD 0 0 % 32) ≤ 8 := by rcases hwid_of _ h2 h3 with ⟨_, h⟩ | ⟨_, h⟩ | ⟨_, h⟩ | ⟨_, h⟩ <;> omega
    unfold HOk
    dsimp only
    exact ⟨⟨hr.1, hr.2, by omega, by omega⟩, fun _ _ => by omega⟩
theorem leastW_small {a : Int} (h : a < 24) : leastW a = 0 := by unfold leastW; rw [if_pos h]
theorem hread_nil {L : List Int} (h : L.length = 0) : hread L = hnone 0 9 := by unfold hread; rw [if_pos h]
theorem hread_bad {L : List Int} (h : 0 < L.length) (hi : 28 ≤ L.getD 0 0 % 32) : hread L = hnone 0 (hbad (L.getD 0 0 / 32) (L.getD 0 0 % 32)) := by
  unfold hread; rw [if_neg (by omega), if_pos hi]
theorem hread_small {L : List Int} (h : 0 < L.length) (hi : L.getD 0 0 % 32 < 24) : hread L = ⟨L.getD 0 0 / 32, 0, L.getD 0 0 % 32, 1, -1, 0⟩ := by
  unfold hread; rw [if_neg (by omega), if_neg (by omega), if_pos hi]
theorem hread_cut {L : List Int} (h : 0 < L.length) (hi : 24 ≤ L.getD 0 0 % 32) (hi' : L.getD 0 0 % 32 < 28) (hl : (L.length : Int) ≤ hwid (L.getD 0 0 % 32)) : hread L = hnone L.length 9 := by
  unfold hread; rw [if_neg (by omega), if_neg (by omega), if_neg (by omega), if_pos hl]
theorem hread_simple {L : List Int} (h : 0 < L.length) (hi : 24 ≤ L.getD 0 0 % 32) (hi' : L.getD 0 0 % 32 < 28) (hl : ¬ (L.length : Int) ≤ hwid (L.getD 0 0 % 32))
    (hs : L.getD 0 0 / 32 = 7 ∧ hwid (L.getD 0 0 % 32) = 1 ∧ harg L (hwid (L.getD 0 0 % 32)) < 32) : hread L = hnone 1 2 := by
  unfold hread; rw [if_neg (by omega), if_neg (by omega), if_neg (by omega), if_neg hl, if_pos hs]
theorem hread_whole {L : List Int} (h : 0 < L.length) (hi : 24 ≤ L.getD 0 0 % 32) (hi' : L.getD 0 0 % 32 < 28) (hl : ¬ (L.length : Int) ≤ hwid (L.getD 0 0 % 32))
    (hs : ¬ (L.getD 0 0 / 32 = 7 ∧ hwid (L.getD 0 0 % 32) = 1 ∧ harg L (hwid (L.getD 0 0 % 32)) < 32)) :
    hread L = hlong (L.getD 0 0 / 32) (hwid (L.getD 0 0 % 32)) (harg L (hwid (L.getD 0 0 % 32))) := by
  unfold hread; rw [if_neg (by omega), if_neg (by omega), if_neg (by omega), if_neg hl, if_neg hs]
theorem HSt.last {L : List Int} {q : HQ} (h : HSt L L.length q) : hread L = hnone L.length 9 := by
  rcases h with ⟨h0, rfl⟩ | ⟨h1, _, h2, h3, h4, _⟩
  · rw [hread_nil h0, h0]; rfl
  · exact hread_cut h1 h2 h3 h4
/-- What one more byte comes to. -/
inductive HNext (L : List Int) (k : Nat) (q : HQ) : Bool → Int → HQ → Prop
  | bad (e : Int) (q' : HQ) (he : e ≠ 0) (h : hread L = hnone k e) : HNext L k q false e q'
  | long (q' : HQ) (h : (hread L).place = k) (he : (hread L).e = 5) : HNext L k q true 5 q'
  | whole (q' : HQ) (h : hread L = ⟨q'.major, q'.width, q'.arg, k + 1, -1, 0⟩) (ho : q'.opn = false) : HNext L k q true 0 q'
  | more (q' : HQ) (h : HSt L (k + 1) q') : HNext L k q false 0 q'
theorem HSt.step {L : List Int} {k : Nat} {q : HQ} (h : HSt L k q) (hk : k < L.length) : HNext L k q (hdone q (L.getD k 0)) (herr q (L.getD k 0)) (hstep q (L.getD k 0)) := by
  unfold hdone herr hstep
  rcases h with ⟨rfl, rfl⟩ | ⟨h1, hkl, h2, h3, h4, rfl⟩
  · have e0 : hmid hq0 (L.getD 0 0) = hbeg (L.getD 0 0 / 32) (L.getD 0 0 % 32) := rfl
    rw [e0]
    by_cases hi : 28 ≤ L.getD 0 0 % 32
    · have hR := hread_bad hk hi
      have e1 : hbeg (L.getD 0 0 / 32) (L.getD 0 0 % 32) = ⟨L.getD 0 0 / 32, 0, 0, 0, true, hbad (L.getD 0 0 / 32) (L.getD 0 0 % 32)⟩ := by unfold hbeg; rw [if_pos hi]
      have hb := hbad_ne (m := L.getD 0 0 / 32) hi
      rw [e1]
      generalize hbad (L.getD 0 0 / 32) (L.getD 0 0 % 32) = b at *
      have hm : (HQ.mk (L.getD 0 0 / 32) 0 0 0 true b).more := Or.inl (by show b ≠ 0; omega)
      rw [if_pos hm, if_pos hm]
      simp only [hm, decide_true, Bool.not_true]
      exact .bad b _ (by omega) hR
    by_cases hs : L.getD 0 0 % 32 < 24
    · have hR := hread_small hk hs
      have e1 : hbeg (L.getD 0 0 / 32) (L.getD 0 0 % 32) = ⟨L.getD 0 0 / 32, 0, L.getD 0 0 % 32, 0, true, 0⟩ := by unfold hbeg; rw [if_neg hi, if_pos hs]
      rw [e1]
      have hm : ¬ (HQ.mk (L.getD 0 0 / 32) 0 (L.getD 0 0 % 32) 0 true 0).more := fun h => by rcases h with h | h; exact h rfl; exact absurd h (by show ¬ (0 : Int) < 0; decide)
      have hsh : hshort (L.getD 0 0 / 32) 0 (L.getD 0 0 % 32) = true := by unfold hshort; rw [if_neg (by omega), leastW_small hs]; rfl
      rw [if_neg hm, if_neg hm]
      dsimp only
      rw [hsh]
      simp only [hm, decide_false, Bool.not_false, if_true]
      exact .whole _ (by rw [hR]; rfl) rfl
    · have e1 : hbeg (L.getD 0 0 / 32) (L.getD 0 0 % 32) = ⟨L.getD 0 0 / 32, hwid (L.getD 0 0 % 32), 0, hwid (L.getD 0 0 % 32), true, 0⟩ := by unfold hbeg; rw [if_neg hi, if_neg hs]
      rw [e1]
      have hw : 1 ≤ hwid (L.getD 0 0 % 32) := by rcases hwid_of _ (by omega : 24 ≤ L.getD 0 0 % 32) (by omega) with ⟨_, h⟩ | ⟨_, h⟩ | ⟨_, h⟩ | ⟨_, h⟩ <;> omega
      have hm : (HQ.mk (L.getD 0 0 / 32) (hwid (L.getD 0 0 % 32)) 0 (hwid (L.getD 0 0 % 32)) true 0).more := Or.inr (by show 0 < hwid _; omega)
      rw [if_pos hm, if_pos hm]
      simp only [hm, decide_true, Bool.not_true]
      refine .more _ (Or.inr ⟨by omega, hk, by omega, by omega, by omega, ?_⟩)
      congr 1
      omega
  · have e0 : hmid ⟨L.getD 0 0 / 32, hwid (L.getD 0 0 % 32), big 18446744073709551616 (pad (L.drop 1) (k - 1)), hwid (L.getD 0 0 % 32) - k + 1, true, 0⟩ (L.getD k 0) =
        ⟨L.getD 0 0 / 32, hwid (L.getD 0 0 % 32), big 18446744073709551616 (pad (L.drop 1) k), hwid (L.getD 0 0 % 32) - k, true, if L.getD 0 0 / 32 = 7 ∧ hwid (L.getD 0 0 % 32) = 1 ∧ big 18446744073709551616 (pad (L.drop 1) k) < 32 then 2 else 0⟩ := by
      have hb : (big 18446744073709551616 (pad (L.drop 1) (k - 1)) * 256 + L.getD k 0) % 18446744073709551616 = big 18446744073709551616 (pad (L.drop 1) k) := by
        have := big_pad 18446744073709551616 (L.drop 1) (k - 1)
        rw [show k - 1 + 1 = k by omega] at this
        rw [this]
        congr 2
        simp only [List.getD_eq_getElem?_getD, List.getElem?_drop]
        rw [show 1 + (k - 1) = k by omega]
      unfold hmid hfollow
      rw [if_neg (by simp), if_pos rfl]
      dsimp only
      rw [hb]
      congr 1
      omega
    rw [e0]
    by_cases hs : L.getD 0 0 / 32 = 7 ∧ hwid (L.getD 0 0 % 32) = 1 ∧ big 18446744073709551616 (pad (L.drop 1) k) < 32
    · rw [if_pos hs]
      have hk1 : k = 1 := by omega
      subst hk1
      have hR := hread_simple (by omega) h2 h3 (by omega) (by unfold harg; rw [hs.2.1]; exact ⟨hs.1, rfl, hs.2.2⟩)
      have hm : (HQ.mk (L.getD 0 0 / 32) (hwid (L.getD 0 0 % 32)) (big 18446744073709551616 (pad (L.drop 1) 1)) (hwid (L.getD 0 0 % 32) - (1 : Nat)) true 2).more := Or.inl (by show (2 : Int) ≠ 0; decide)
      rw [if_pos hm, if_pos hm]
      simp only [hm, decide_true, Bool.not_true]
      exact .bad 2 _ (by decide) hR
    · rw [if_neg hs]
      by_cases hlt : (k : Int) < hwid (L.getD 0 0 % 32)
      · have hm : (HQ.mk (L.getD 0 0 / 32) (hwid (L.getD 0 0 % 32)) (big 18446744073709551616 (pad (L.drop 1) k)) (hwid (L.getD 0 0 % 32) - k) true 0).more := Or.inr (by show 0 < hwid _ - (k : Int); omega)
        rw [if_pos hm, if_pos hm]
        simp only [hm, decide_true, Bool.not_true]
        refine .more _ (Or.inr ⟨by omega, hk, h2, h3, by omega, ?_⟩)
        rw [show k + 1 - 1 = k by omega]
        congr 1
        omega
      · have hkw : (k : Int) = hwid (L.getD 0 0 % 32) := by omega
        have hkn : (hwid (L.getD 0 0 % 32)).toNat = k := by omega
        have hm : ¬ (HQ.mk (L.getD 0 0 / 32) (hwid (L.getD 0 0 % 32)) (big 18446744073709551616 (pad (L.drop 1) k)) (hwid (L.getD 0 0 % 32) - k) true 0).more := fun h => by
          rcases h with h | h
          · exact h rfl
          · exact absurd h (by show ¬ 0 < hwid _ - (k : Int); omega)
        have hR := hread_whole (L := L) (by omega) h2 h3 (by omega) (by unfold harg; rw [hkn]; exact hs)
        unfold harg at hR
        rw [hkn] at hR
        rw [if_neg hm, if_neg hm]
        simp only [hm, decide_false, Bool.not_false]
        cases hb : hshort (L.getD 0 0 / 32) (hwid (L.getD 0 0 % 32)) (big 18446744073709551616 (pad (L.drop 1) k)) with
        | true =>
          unfold hlong at hR
          rw [hb] at hR
          rw [if_pos rfl]
          refine .whole _ ?_ rfl
          rw [hR, ← hkw]
          congr 1
          omega
        | false =>
          unfold hlong at hR
          rw [hb] at hR
          rw [if_neg (by decide)]
          refine .long _ ?_ ?_
          · rw [hR]; exact hkw.symm
          · rw [hR]; rfl
end Go.Proofs.YtgbbgdjdomkohaaGreat

/- The contracts of what reads a number out of bytes. -/
namespace Go.Proofs.YtgbbgdjdomkohaaGreat
open Go.RowKit

end Go.Proofs.YtgbbgdjdomkohaaGreat

/- The contracts of what lays numbers as bytes. -/
namespace Go.Proofs.YtgbbgdjdomkohaaGreat
open Go.RowKit

theorem getD_rev_pad (zs : List Int) (k : Nat) (hk : k < 8) : ((pad zs 8).reverse).getD k 0 = zs.getD (7 - k) 0 := by
  have hl : k < (pad zs 8).length := by rw [length_pad]; exact hk
  rw [List.getD_eq_getElem?_getD, List.getElem?_reverse hl, length_pad]
  simp [pad, show 8 - 1 - k < 8 by omega]
theorem rev_step (zs : List Int) (m : Nat) (hm : m < 8) :
    big 18446744073709551616 ((pad zs 8).reverse.take (8 - m)) = (big 18446744073709551616 ((pad zs 8).reverse.take (8 - (m + 1))) * 256 % 18446744073709551616 + zs.getD m 0) % 18446744073709551616 := by
  rw [mod_step, show 8 - m = (8 - (m + 1)) + 1 by omega, big_take _ _ _ (by rw [List.length_reverse, length_pad]; omega), getD_rev_pad _ _ (by omega), show 7 - (8 - (m + 1)) = m by omega]

/-- The n bytes of x, the least one first. -/
def le (n : Nat) (x : Int) : List Int := (List.range n).map fun i => x / 256 ^ i % 256
theorem length_le (n : Nat) (x : Int) : (le n x).length = n := by simp [le]
theorem le_succ (n : Nat) (x : Int) : le (n + 1) x = le n x ++ [x / 256 ^ n % 256] := by simp [le, List.range_succ]
theorem byte_le (n : Nat) (x : Int) : ByteL (le n x) := by
  intro c hc
  simp only [le, List.mem_map] at hc
  obtain ⟨i, _, rfl⟩ := hc
  omega
theorem laid_step (zs : List Int) (k : Nat) (x : Int) (h : k < zs.length) : (le k x ++ zs.drop k).set k (x / 256 ^ k % 256) = le (k + 1) x ++ zs.drop (k + 1) := by
  rw [List.set_append_right _ _ (by rw [length_le]; exact Nat.le_refl _), length_le, Nat.sub_self, List.drop_eq_getElem_cons h, List.set_cons_zero, le_succ, List.append_assoc]
  rfl
theorem div_step (x : Int) (k : Nat) : x / 256 ^ k / 256 = x / 256 ^ (k + 1) := by
  rw [Int.pow_succ, Int.ediv_ediv_of_nonneg (Int.le_of_lt (Int.pow_pos (by decide)))]

set_option maxHeartbeats 400000 in
theorem lay64 (w : World) (g : Nat) (t : TypeId) (cap : Nat) (zs : List Int) (x : Int) (hg : Blk w g t (nums .u8 zs)) (hl : zs.length ≤ 9223372036854775807) (hx : 0 ≤ x) :
    Calls Tryz.prog 101 #[.slice (some ⟨g, 0, none⟩) zs.length cap, .int .u64 x] w fun e w' => e = .returned (.tuple #[]) ∧ Blk w' g t (nums .u8 (le zs.length x)) ∧ Only g w w' := by
  have HX := Lib.hid hx
  go_enter Tryz.func101, Tryz.ntmps101
  go_wp2
  go_loopw [1, 7] (fun y i wr => ∃ k : Nat, k ≤ zs.length ∧ i = .int .i64 k ∧ y = .int .u64 (x / 256 ^ k) ∧ Blk wr g t (nums .u8 (le k x ++ zs.drop k)) ∧ Only g w wr) (fun _ i _ => zs.length - (intOf i).toNat)
  case atStart => exact ⟨0, Nat.zero_le _, rfl, by simp, by simpa [le] using hg, Only.refl _ _⟩
  case round =>
    obtain ⟨k, hk, rfl, rfl, hblk, honly⟩ := hrel
    by_cases hlt : k < zs.length
    · have hll : k < (le k x ++ zs.drop k).length := by simp [length_le]; omega
      have hcell : wr.cell? ⟨g, k, none⟩ = _ := (hblk.cell k).trans (nums_get .u8 _ k hll)
      have hfree := hblk.free k
      have hnew := hblk.put k (.int .u8 (x / 256 ^ k % 256))
      rw [nums_put, laid_step zs k x hlt] at hnew
      have honly' := honly.put k (.int .u8 (x / 256 ^ k % 256))
      have HD := Lib.hid (div_step x k)
      have hy : 0 ≤ x / 256 ^ k := Int.ediv_nonneg HX.out (Int.le_of_lt (Int.pow_pos (by decide)))
      generalize x / 256 ^ k = y at *
      go_wp2
      go_roundw
      case rel => exact ⟨k + 1, by omega, by go_num, by rw [HD.out], hnew, honly'⟩
      case measure => simp [intOf]; omega
    · have hk' : k = zs.length := by omega
      subst hk'
      rw [List.drop_length, List.append_nil] at hblk
      go_wp2
      go_end0
      exact ⟨rfl, hblk, honly⟩

theorem getD_set (l : List Int) (i j : Nat) (u : Int) (h : i < l.length) : (l.set i u).getD j 0 = if i = j then u else l.getD j 0 := by
  simp only [List.getD_eq_getElem?_getD, List.getElem?_set]
  by_cases e : i = j
  · subst e; simp [h]
  · simp [e]
/-- zs with its first k turned round against the last k. -/
def swapped (zs : List Int) (k : Nat) : List Int := (List.range zs.length).map fun i => if i < k ∨ zs.length ≤ i + k then zs.getD (zs.length - 1 - i) 0 else zs.getD i 0
theorem length_swapped (zs : List Int) (k : Nat) : (swapped zs k).length = zs.length := by simp [swapped]
theorem getD_swapped (zs : List Int) (k i : Nat) (h : i < zs.length) : (swapped zs k).getD i 0 = if i < k ∨ zs.length ≤ i + k then zs.getD (zs.length - 1 - i) 0 else zs.getD i 0 := by
  simp [swapped, List.getD_eq_getElem?_getD, h]
theorem ext_getD (a b : List Int) (hl : a.length = b.length) (h : ∀ i, i < a.length → a.getD i 0 = b.getD i 0) : a = b := by
  apply List.ext_getElem hl
  intro i h1 h2
  have := h i h1
  simpa [List.getD_eq_getElem?_getD, h1, h2] using this
theorem swapped_zero (zs : List Int) : swapped zs 0 = zs := by
  apply ext_getD _ _ (length_swapped _ _)
  intro i hi
  rw [length_swapped] at hi
  rw [getD_swapped _ _ _ hi, if_neg (by omega)]
theorem swapped_step (zs : List Int) (k : Nat) (h : k < zs.length - 1 - k) :
    ((swapped zs k).set k ((swapped zs k).getD (zs.length - 1 - k) 0)).set (zs.length - 1 - k) ((swapped zs k).getD k 0) = swapped zs (k + 1) := by
  apply ext_getD _ _ (by simp [length_swapped])
  intro i hi
  simp only [List.length_set, length_swapped] at hi
  rw [getD_set _ _ _ _ (by simp [length_swapped]; omega), getD_set _ _ _ _ (by simp [length_swapped]; omega), getD_swapped _ _ _ hi, getD_swapped _ _ _ hi, getD_swapped _ _ _ (by omega), getD_swapped _ _ _ (by omega)]
  by_cases e1 : zs.length - 1 - k = i
  · rw [if_pos e1, if_neg (by omega), if_pos (by omega)]
    congr 1; omega
  · rw [if_neg e1]
    by_cases e2 : k = i
    · rw [if_pos e2, if_neg (by omega), if_pos (by omega)]
      congr 1; omega
    · rw [if_neg e2]
      by_cases e3 : i < k ∨ zs.length ≤ i + k
      · rw [if_pos e3, if_pos (by omega)]
      · rw [if_neg e3, if_neg (by omega)]
theorem swapped_end (zs : List Int) (k : Nat) (h : zs.length - 1 - k ≤ k) : swapped zs k = zs.reverse := by
  apply ext_getD _ _ (by simp [length_swapped])
  intro i hi
  rw [length_swapped] at hi
  have hr : zs.reverse.getD i 0 = zs.getD (zs.length - 1 - i) 0 := by
    rw [List.getD_eq_getElem?_getD, List.getElem?_reverse hi, ← List.getD_eq_getElem?_getD]
  rw [getD_swapped _ _ _ hi, hr]
  by_cases e : i < k ∨ zs.length ≤ i + k
  · rw [if_pos e]
  · rw [if_neg e]; congr 1; omega

set_option maxHeartbeats 800000 in
theorem reverse_any (w : World) (g : Nat) (t : TypeId) (cap : Nat) (zs : List Int) (hg : Blk w g t (nums .u8 zs)) (hl : zs.length ≤ 9223372036854775807) :
    Calls Tryz.prog 102 #[.slice (some ⟨g, 0, none⟩) zs.length cap] w fun e w' => e = .returned (.tuple #[]) ∧ Blk w' g t (nums .u8 zs.reverse) ∧ Only g w w' := by
  go_enter Tryz.func102, Tryz.ntmps102
  go_wp2
  go_loopw [2, 3] (fun x y wr => ∃ k : Nat, x = .int .i64 k ∧ y = .int .i64 ((zs.length : Int) - 1 - k) ∧ Blk wr g t (nums .u8 (swapped zs k)) ∧ Only g w wr) (fun x _ _ => zs.length - (intOf x).toNat)
  case atStart => exact ⟨0, rfl, by simp, by rw [swapped_zero]; exact hg, Only.refl _ _⟩
  case round =>
    obtain ⟨k, rfl, rfl, hblk, honly⟩ := hrel
    by_cases hlt : k < zs.length - 1 - k
    · have hll : k < (swapped zs k).length := by rw [length_swapped]; omega
      have hll' : zs.length - 1 - k < (swapped zs k).length := by rw [length_swapped]; omega
      have hcell : wr.cell? ⟨g, k, none⟩ = _ := (hblk.cell k).trans (nums_get .u8 _ k hll)
      have hcell' : wr.cell? ⟨g, zs.length - 1 - k, none⟩ = _ := (hblk.cell _).trans (nums_get .u8 _ _ hll')
      have hfree := hblk.free k
      have hfree' := hblk.free (zs.length - 1 - k)
      have HS := Lib.hid (swapped_step zs k hlt)
      have e1 : (zs.length : Int) - 1 - k = ((zs.length - 1 - k : Nat) : Int) := by omega
      rw [e1]
      clear e1
      generalize (swapped zs k).getD k 0 = c at *
      generalize (swapped zs k).getD (zs.length - 1 - k) 0 = c' at *
      have hmz : zs.length - 1 - k < zs.length := by omega
      have HM : Hid (zs.length - 1 - k + k + 1 = zs.length) := by unfold Hid; omega
      generalize zs.length - 1 - k = m at *
      go_wp2
      go_region
      go_wp2
      go_roundw
      case rel =>
        have h1 := (hblk.put k (.int .u8 c')).put m (.int .u8 c)
        rw [nums_put, nums_put, HS.out] at h1
        exact ⟨k + 1, by go_num, by have := HM.out; rw [show (zs.length : Int) - 1 - ((k + 1 : Nat) : Int) = (m : Int) - 1 by omega], h1, ((honly.put k _).put m _).drew⟩
      case measure => simp [intOf]; omega
    · go_wp2
      go_end0
      rw [swapped_end zs k (by omega)] at hblk
      exact ⟨rfl, hblk, honly⟩
end Go.Proofs.YtgbbgdjdomkohaaGreat
