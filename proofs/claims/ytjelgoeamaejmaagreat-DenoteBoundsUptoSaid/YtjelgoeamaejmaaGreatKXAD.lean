/- Who leads to whom: the document's Leads; lists of numbers held against each other. -/
import Derived.Test.YtjelgoeamaejmaaGreatKXAB
import Derived.Test.YtjelgoeamaejmaaGreatKXAC
import Derived.Lib.QuietBelow
namespace Go.Proofs.YtjelgoeamaejmaaGreat
open Go.RowKit Go.Sort

set_option maxRecDepth 100000 in
set_option maxHeartbeats 1000000 in
theorem ref_Ints (xs ys : List Int) (A B : Option Addr) (ca cb n : Nat) (w : World) (hn : n ≤ w.heap.size) (hx : Rd w n .i64 A xs) (hy : Rd w n .i64 B ys) (hm : xs.length ≤ 1099511627776) :
    Calls Tryz.prog 14 #[.slice A xs.length ca, .slice B ys.length cb] w fun e w' => e = .returned (.bool (sameL xs ys)) ∧ Below w.heap.size w w' := by
  by_cases hl : xs.length = ys.length
  · have HL := Lib.hid hl
    obtain ⟨m, hmm⟩ : ∃ m, xs.length = m := ⟨_, rfl⟩
    rw [← hl, hmm]
    rw [hmm] at hm
    have HM := Lib.hid hmm
    have HX : Hid (∀ w', Below w.heap.size w w' → Rd w' n .i64 A xs) := Lib.hid fun w' hb => hx.below (hb.mono hn)
    have HY : Hid (∀ w', Below w.heap.size w w' → Rd w' n .i64 B ys) := Lib.hid fun w' hb => hy.below (hb.mono hn)
    clear hl hmm hx hy
    go_enter Tryz.func14, Tryz.ntmps14
    go_wp2_with fail
    go_loopw [5] (fun i wr => ∃ k : Nat, k ≤ m ∧ i = .int .i64 (k : Int) ∧ Hid (Below w.heap.size w wr) ∧ Hid (∀ j, j < k → xs[j]? = ys[j]?)) (fun i _ => m - (intOf i).toNat)
    case atStart => exact ⟨0, by omega, rfl, Lib.hid (Below.refl _ _), Lib.hid fun j hj => absurd hj (by omega)⟩
    case round =>
      obtain ⟨k, hk, rfl, HB, HE⟩ := hrel
      by_cases hlt : k < m
      · obtain ⟨b1, o1, x, rfl, -, X, c1⟩ := (HX.out wr HB.out).get' (i := k) (by rw [HM.out]; exact hlt)
        obtain ⟨b2, o2, y, rfl, -, Y, c2⟩ := (HY.out wr HB.out).get' (i := k) (by rw [← HL.out, HM.out]; exact hlt)
        have HXK := Lib.hid X
        have HYK := Lib.hid Y
        clear X Y
        skip
        by_cases e : x = y
        · have HEE := Lib.hid e
          subst e
          go_wp2_with fail
          go_quiet (fail)
          have HQ := Lib.hid (below_drewN (Below.refl wr.heap.size wr) nq)
          generalize wr.drewN nq = w2 at *
          go_wp2_with fail
          go_roundw
          case rel => exact ⟨k + 1, by omega, by simp, Lib.hid (HB.out.trans (HQ.out.mono HB.out.size)), Lib.hid fun j hj => by
            by_cases e : j = k
            · subst e; rw [HXK.out, HYK.out]
            · exact HE.out j (by omega)⟩
          case measure => simp [intOf]; omega
        · have HF : Hid (sameL xs ys = false) := Lib.hid (sameL_false.2 (list_ne_at (k := k) (by rw [HXK.out, HYK.out]; exact fun h => e (by injection h))))
          have e1 : (x != y) = true := by simp [e]
          go_wp2_with fail
          go_quiet (fail)
          have HQ := Lib.hid (below_drewN (Below.refl wr.heap.size wr) nq)
          generalize wr.drewN nq = w2 at *
          go_wp2_with fail
          go_ret
          exact ⟨by rw [HF.out]; rfl, HB.out.trans (HQ.out.mono HB.out.size)⟩
      · obtain rfl : k = m := by omega
        have HF : Hid (sameL xs ys = true) := Lib.hid (sameL_true.2 (list_eq_upto HL.out (by rw [HM.out]; exact HE.out)))
        go_wp2_with fail
        go_ret
        exact ⟨by rw [HF.out]; rfl, HB.out⟩
  · have HF : Hid (sameL xs ys = false) := Lib.hid (sameL_false.2 fun e => hl (by rw [e]))
    have hne : ((xs.length : Int) != ys.length) = true := by simp; omega
    go_enter Tryz.func14, Tryz.ntmps14
    go_wp2_with fail
    go_ret
    exact ⟨by rw [HF.out]; rfl, Below.refl _ _⟩


end Go.Proofs.YtjelgoeamaejmaaGreat
