
/- The document's over: deeper, wider, longer texts than are looked at. -/
import Derived.Test.YtobolfnokjekcaaItemC
namespace Go.Proofs.Ytobolfnokjekcaa
open Go.RowKit

def overB : Nat → It → Bool
  | 0, _ => true
  | d + 1, t => decide (200 < t.l.length) || decide (300 < t.s.size) || t.l.any (overB d)
theorem any_none {l : List It} {p : It → Bool} (h : ∀ (j : Nat) (X : It), l[j]? = some X → p X = false) : l.any p = false := by
  rw [List.any_eq_false]
  intro x hx
  obtain ⟨j, hj⟩ := List.mem_iff_getElem?.1 hx
  simp [h j x hj]

set_option maxRecDepth 100000 in
set_option maxHeartbeats 2000000 in
theorem ref_over : ∀ (d : Nat) (x : It) (A : Option Addr) (cap : Nat) (w : World), d ≤ 80 → x.count ≤ 1099511627776 → AtV w x A cap →
    Calls Try.prog 17 #[vI x A cap, .int .i64 (d : Int)] w fun e w' => e = .returned (.bool (overB d x)) ∧ Below w.heap.size w w' := by
  intro d
  induction d with
  | zero =>
    intro x A cap w _ _ _
    go_enter Try.func17, Try.ntmps17
    unfold vI
    go_wp2_with fail
    go_ret
    exact ⟨rfl, below_alloc w _⟩
  | succ d ih =>
    intro x A cap w hd hbig h
    simp only [vI] at ih
    have IH := Lib.hid ih
    clear ih
    have hdi : ((d + 1 : Nat) : Int) = (d : Int) + 1 := by omega
    have hd0 : (0 : Int) ≤ d := by omega
    have hd8 : (d : Int) < 80 := by omega
    have HD := Lib.hid (fun _ : Unit => (show d ≤ 80 by omega))
    rw [hdi]
    clear hdi hd
    obtain ⟨k, n, s, l⟩ := x
    have hml : (l.length : Int) < 1099511627776 := by
      have := length_le_countL l
      simp only [It.count] at hbig; omega
    by_cases hw : 200 < l.length ∨ 300 < s.size
    · have HF : RowKit.Hid (overB (d + 1) (It.mk k n s l) = true) := Lib.hid (by
        show (decide (200 < l.length) || decide (300 < s.size) || l.any (overB d)) = true
        rcases hw with h | h <;> simp [h])
      have HW := Lib.hid (fun _ : Unit => hw)
      clear hw hbig hml
      generalize hz : overB (d + 1) (It.mk k n s l) = z at *
      clear hz
      go_enter Try.func17, Try.ntmps17
      simp only [vI, It.k, It.n, It.s, It.l]
      go_wp2_with fail
      all_goals first
        | (go_ret; exact ⟨by rw [HF.out]; rfl, below_alloc w _⟩)
        | (exfalso; rcases HW.out () with h | h <;> omega)
    · obtain ⟨w1, hw1, b1, S⟩ := iblk1 w 25 #[.int .i64 k, .int .u64 n, .string s, .slice A l.length cap]
      obtain ⟨p0, p1, p2, p3, -⟩ := iblk b1
      have H1 := Lib.hid (h.on S)
      have HS := Lib.hid S
      have HC : RowKit.Hid (∀ X, X ∈ l → X.count ≤ 1099511627776) := Lib.hid fun X hX => by
        have := count_le_of_mem hX
        simp only [It.count] at hbig; omega
      have h2 : (l.length : Int) ≤ 200 := by omega
      have h3 : (s.size : Int) ≤ 300 := by omega
      have HF : RowKit.Hid (overB (d + 1) (It.mk k n s l) = l.any (overB d)) := Lib.hid (by
        have e1 : decide (200 < l.length) = false := by simp; omega
        have e2 : decide (300 < s.size) = false := by simp; omega
        show (decide (200 < l.length) || decide (300 < s.size) || l.any (overB d)) = _
        rw [e1, e2]
        rfl)
      clear h S hbig b1 hw hml
      go_enter Try.func17, Try.ntmps17
      simp only [vI, It.k, It.n, It.s, It.l]
      obtain ⟨m, hm⟩ : ∃ m, l.length = m := ⟨_, rfl⟩
      rw [hm] at hw1 p3 h2 ⊢
      have HM := Lib.hid hm
      clear hm
      have e0 : ((d : Int) + 1 == 0) = false := by simp; omega
      have e1 : decide ((200 : Int) < m) = false := by simp; omega
      have e2 : decide ((300 : Int) < s.size) = false := by simp; omega
      have hde : (d : Int) + 1 - 1 = d := by omega
      go_wp2_with fail
      clear hw1
      have HG := Lib.hid (block_lt_of_cell p0)
      generalize hgg : w.heap.size = g at *
      have HGG := Lib.hid hgg
      clear hgg
      go_loopw [5] (fun i wr => ∃ j : Nat, j ≤ m ∧ i = .int .i64 (j : Int) ∧ RowKit.Hid (Below w1.heap.size w1 wr) ∧ RowKit.Hid (∀ j' X, j' < j → l[j']? = some X → overB d X = false)) (fun i _ => m - (intOf i).toNat)
      case atStart => exact ⟨0, by omega, rfl, Lib.hid (Below.refl _ _), Lib.hid fun j X hj => absurd hj (by omega)⟩
      case round =>
        obtain ⟨j, hj, rfl, HB, HE⟩ := hrel
        have p3' := (HB.out.cell (p := ⟨g, 3, none⟩) HG.out).trans p3
        by_cases hlt : j < m
        · obtain ⟨i1, o1, X, A1', c1', rfl, hb1, hX, mX, x0, x1, x2, x3, hx⟩ := (H1.out.on HB.out).at_.item (i := j) (by show j < l.length; rw [HM.out]; exact hlt)
          have hcc := IH.out X A1' c1' wr (HD.out ()) (HC.out X mX) hx
          obtain ⟨r, hr⟩ : ∃ r, overB d X = r := ⟨_, rfl⟩
          rw [hr] at hcc
          have HX := Lib.hid (show l[j]? = some X from hX)
          have HR := Lib.hid hr
          have HCC := Lib.hid hcc
          have HMX := Lib.hid (show X ∈ l from mX)
          clear hx hX hcc mX hr
          cases r
          · go_wp2_with (go_at_call 17; refine HCC.out.mono ?_; rintro e w3 ⟨rfl, hb3⟩; have HB3 := Lib.hid hb3; clear hb3)
            go_roundw
            case rel =>
              refine ⟨j + 1, by omega, by simp, Lib.hid (HB.out.trans (HB3.out.mono HB.out.size)), Lib.hid fun j' X' hj' hX' => ?_⟩
              by_cases e : j' = j
              · subst e
                have h1 := HX.out
                rw [hX'] at h1
                injection h1 with h1
                rw [h1]
                exact HR.out
              · exact HE.out j' X' (by omega) hX'
            case measure => simp [intOf]; omega
          · go_wp2_with (go_at_call 17; refine HCC.out.mono ?_; rintro e w3 ⟨rfl, hb3⟩; have HB3 := Lib.hid hb3; clear hb3)
            go_ret
            refine ⟨?_, by rw [HGG.out]; exact HS.out.trans ((HB.out.trans (HB3.out.mono HB.out.size)).mono (by have := HG.out; omega))⟩
            rw [HF.out, List.any_eq_true.2 ⟨X, HMX.out, HR.out⟩]
            rfl
        · obtain rfl : j = m := by omega
          go_wp2_with fail
          go_ret
          refine ⟨?_, by rw [HGG.out]; exact HS.out.trans (HB.out.mono (by have := HG.out; omega))⟩
          rw [HF.out, any_none fun j' X hX => HE.out j' X (by
            have h1 := HM.out
            have h2 : j' < l.length := by
              rcases Nat.lt_or_ge j' l.length with h | h
              · exact h
              · rw [List.getElem?_eq_none h] at hX; cases hX
            omega) hX]
          rfl
end Go.Proofs.Ytobolfnokjekcaa
