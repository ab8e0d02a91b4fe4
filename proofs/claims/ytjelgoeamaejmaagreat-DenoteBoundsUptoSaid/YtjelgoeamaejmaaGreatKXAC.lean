/- The document's wrong, Check. -/
import Derived.Test.YtjelgoeamaejmaaGreatKBF
import Derived.Test.YtjelgoeamaejmaaGreatKBG
import Derived.Test.YtjelgoeamaejmaaGreatKBH
namespace Go.Proofs.YtjelgoeamaejmaaGreat
open Go.RowKit

theorem sref_wrong (xs : List Nd) (A : Option Addr) (cap n i : Nat) (x : Nd) (w : World) (hn : n ≤ w.heap.size) (hx : RdN w n A xs) (hX : xs[i]? = some x) (ho : okN x) (hm : xs.length ≤ 1099511627776) :
    Calls Tryz.prog 24 #[vS A xs cap, .int .i64 (i : Int)] w fun e w' => e = .returned (.int .i64 (wrongN chI x i xs.length)) ∧ Below w.heap.size w w' := by
  by_cases h1 : x.k = 1
  · exact sref_wrong1 xs A cap n i x w hn hx hX ho h1 hm
  by_cases h2 : x.k = 2
  · exact sref_wrong2 xs A cap n i x w hn hx hX ho h2 hm
  by_cases h3 : x.k = 3
  · exact sref_wrong3 xs A cap n i x w hn hx hX ho h3 hm
  by_cases h6 : x.k = 6
  · exact sref_wrong6 xs A cap n i x w hn hx hX ho h6 hm
  by_cases h9 : x.k = 9
  · exact sref_wrong9 xs A cap n i x w hn hx hX ho h9 hm
  exact sref_wrong_o xs A cap n i x w hn hx hX ho ⟨h1, h2, h3, h6, h9⟩ hm

set_option maxRecDepth 100000 in
set_option maxHeartbeats 4000000 in
theorem sref_Check (xs : List Nd) (A : Option Addr) (cap n : Nat) (w : World) (hn : n ≤ w.heap.size) (hx : RdN w n A xs) (ho : ∀ x ∈ xs, okN x) (hm : xs.length ≤ 1099511627776) :
    Calls Tryz.prog 11 #[vS A xs cap] w fun e w' => e = .returned (.tuple #[.int .i64 (checkI chI xs : Nat), .int .i64 (checkE chI xs)]) ∧ Below w.heap.size w w' := by
  obtain ⟨w1, hw1, b1, S⟩ := iblk1 w 24 #[.slice A xs.length cap]
  have HF : Hid (∀ W, Below w.heap.size w W → RdN W n A xs) := Lib.hid fun W hW => hx.keep (hW.mono hn)
  have HOK := Lib.hid ho
  have HN := Lib.hid hn
  have HB := Lib.hid b1
  have HS := Lib.hid S
  have p0 := sblk b1
  have HUP : Hid (∀ W, Below w1.heap.size w1 W → Below w.heap.size w W) := Lib.hid fun W hW => S.trans (hW.mono S.size)
  have HCW : Hid (∀ W, Below w1.heap.size w1 W → ∀ (i : Nat) (x : Nd), xs[i]? = some x → Calls Tryz.prog 24 #[vS A xs cap, .int .i64 (i : Int)] W fun e w' => e = .returned (.int .i64 (wrongN chI x i xs.length)) ∧ Below w1.heap.size w1 w') := Lib.hid fun W hW i x hX =>
    (sref_wrong xs A cap n i x W (Nat.le_trans hn (S.trans (hW.mono S.size)).size) (hx.keep ((S.trans (hW.mono S.size)).mono hn)) hX (ho x (List.mem_of_getElem? hX)) hm).mono fun e w' h => ⟨h.1, hW.trans (h.2.mono hW.size)⟩
  obtain ⟨m, hml⟩ : ∃ m, xs.length = m := ⟨_, rfl⟩
  have HM := Lib.hid hml
  unfold vS at HCW
  rw [hml] at p0 hw1 hm HB HCW
  unfold vS
  rw [hml]
  clear b1 S hx hn ho hml
  obtain ⟨ri, hri⟩ : ∃ ri : Int, ((checkI chI xs : Nat) : Int) = ri := ⟨_, rfl⟩
  obtain ⟨re, hre⟩ : ∃ re, checkE chI xs = re := ⟨_, rfl⟩
  rw [hri, hre]
  have HSET : Hid (∀ a b, checkE chI xs = a ∧ checkI chI xs = b → re = a ∧ ri = (b : Int)) := Lib.hid fun a b h => ⟨hre.symm.trans h.1, hri.symm.trans (by rw [h.2])⟩
  clear hri hre
  go_enter Tryz.func11, Tryz.ntmps11
  by_cases hb : m < 1 ∨ 256 < m
  · obtain ⟨rfl, rfl⟩ := HSET.out _ _ (checkE_bad (ch := chI) (by rw [HM.out]; exact hb))
    rcases hb with hb | hb
    · have e1 : (m : Int) < 1 := by omega
      clear hb
      go_wp2_with fail
      go_ret2
      exact ⟨rfl, HS.out⟩
    · have e1 : ¬ (m : Int) < 1 := by omega
      have e2 : (256 : Int) < m := by omega
      clear hb
      go_wp2_with fail
      go_ret2
      exact ⟨rfl, HS.out⟩
  have e1 : ¬ (m : Int) < 1 := by omega
  have e2 : ¬ (256 : Int) < m := by omega
  have HBAD : Hid (¬ (xs.length < 1 ∨ 256 < xs.length)) := Lib.hid (by rw [HM.out]; exact hb)
  clear hb
  go_wp2_with fail
  clear e1 e2
  go_loopw [4] (fun i wr => ∃ k : Nat, k ≤ m ∧ i = .int .i64 (k : Int) ∧ Hid (Below w1.heap.size w1 wr) ∧ Hid (∀ j, j < k → errN chI xs j = 0)) (fun i _ => m - (intOf i).toNat)
  case atStart => exact ⟨0, by omega, rfl, Lib.hid (Below.refl _ _), Lib.hid fun j hj => absurd hj (by omega)⟩
  case round =>
    obtain ⟨k, hk, rfl, HBr, HE⟩ := hrel
    have s0 := sblk (HB.out.on HBr.out)
    by_cases hlt : k < m
    · obtain ⟨x, hX⟩ : ∃ x, xs[k]? = some x := ⟨_, List.getElem?_eq_getElem (by rw [HM.out]; exact hlt)⟩
      have HX := Lib.hid hX
      have HCH := Lib.hid (HCW.out wr HBr.out k x hX)
      clear hX
      obtain ⟨r, hr⟩ : ∃ r, wrongN chI x k m = r := ⟨_, rfl⟩
      rw [hr] at HCH
      have HR := Lib.hid hr
      clear hr
      by_cases h0 : r = 0
      · subst h0
        have HNX : Hid (errN chI xs k = 0) := Lib.hid (by rw [errN_some HX.out, HM.out]; exact HR.out)
        go_wp2_with (first
          | (go_at_call 24; refine HCH.out.mono ?_; rintro e w4 ⟨rfl, hb4⟩; have HB4 := Lib.hid hb4; clear hb4)
          | fail)
        go_roundw
        case rel => exact ⟨k + 1, by omega, by simp, HB4, Lib.hid fun j hj => by
          by_cases e : j = k
          · rw [e]; exact HNX.out
          · exact HE.out j (by omega)⟩
        case measure => simp [intOf]; omega
      · obtain ⟨rfl, rfl⟩ := HSET.out _ _ (by have := checkE_at (ch := chI) HBAD.out HE.out HX.out (by rw [HM.out, HR.out]; exact h0); rw [HM.out, HR.out] at this; exact this)
        have e3 : (re != 0) = true := by simp [h0]
        clear h0
        go_wp2_with (first
          | (go_at_call 24; refine HCH.out.mono ?_; rintro e w4 ⟨rfl, hb4⟩; have HB4 := Lib.hid hb4; clear hb4)
          | fail)
        go_ret2
        exact ⟨rfl, HUP.out _ HB4.out⟩
    · obtain rfl : k = m := by omega
      obtain ⟨rfl, rfl⟩ := HSET.out _ _ (checkE_all (ch := chI) HBAD.out (by rw [HM.out]; exact HE.out))
      go_wp2_with fail
      go_ret2
      exact ⟨rfl, HUP.out _ HBr.out⟩
end Go.Proofs.YtjelgoeamaejmaaGreat
