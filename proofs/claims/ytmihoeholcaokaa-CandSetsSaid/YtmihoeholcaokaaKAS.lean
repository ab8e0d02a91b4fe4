/- Package item: Same; a list's clone. -/
import Derived.Test.YtmihoeholcaokaaKAR
import Derived.Lib.SliceRun
import Derived.Test.YtmihoeholcaokaaKAP
import Derived.Test.YtmihoeholcaokaaKAH
import Derived.Deep.QuietTactic
namespace Go.Proofs.Ytmihoeholcaokaa
open Go.RowKit

theorem item_Same (x y : It) (A1 A2 : Option Addr) (c1 c2 n : Nat) (w : World) (hc : x.count ≤ 1099511627775) (hn : n ≤ w.heap.size) (h1 : AtB w n x A1 c1) (h2 : AtB w n y A2 c2) :
    Calls Try.prog 34 #[vI x A1 c1, vI y A2 c2] w fun e w' => e = .returned (.bool (sameB x y)) ∧ Below w.heap.size w w' := by
  obtain ⟨w1, hw1, b1, b2, S⟩ := iblk2 w 39 #[.int .i64 x.k, .int .u64 x.n, .string x.s, .slice A1 x.l.length c1] #[.int .i64 y.k, .int .u64 y.n, .string y.s, .slice A2 y.l.length c2]
  obtain ⟨p0, p1, p2, p3, -⟩ := iblk b1
  obtain ⟨q0, q1, q2, q3, -⟩ := iblk b2
  have C := item_compare x y A1 A2 c1 c2 n w1 hc (Nat.le_trans hn S.size) (h1.keep (S.mono hn)) (h2.keep (S.mono hn))
  have HS := Lib.hid S
  rw [sameB_itC]
  clear h1 h2 hc hn S b1 b2
  obtain ⟨z, hz⟩ : ∃ z, itC x y = z := ⟨_, rfl⟩
  rw [hz] at C ⊢
  clear hz
  simp only [vI] at C ⊢
  have HC := Lib.hid C
  clear C
  go_enter Try.func34, Try.ntmps34
  go_wp2_with (go_at_call 41; refine HC.out.mono ?_; rintro e w2 ⟨rfl, hb2⟩; have HB2 := Lib.hid (HS.out.trans (hb2.mono HS.out.size)); clear hb2)
  go_ret
  exact ⟨by by_cases h : z = 0 <;> simp [h], HB2.out⟩

/-- The cells of a list in memory. -/
theorem lay_of : ∀ {l : List It} {w : World} {n : Nat} {a : Addr}, AtL w (· < n) l (some a) → ∃ cs, Lay w n l cs ∧ ∀ j u, cs[j]? = some u → w.cell? (a.add j) = some u
  | [], w, n, a, _ => ⟨[], rfl, fun j u h => by cases h⟩
  | t :: r, w, n, a, h => by
    obtain ⟨b, o, e, hb, hlt, h1, h2⟩ := h.cons
    injection e with e
    subst e
    obtain ⟨A, cap, c0, c1, c2, c3, g1, g2, g3⟩ := h1.parts
    obtain ⟨cs, hl, hc⟩ := lay_of h2
    refine ⟨ic t A cap ++ cs, ⟨A, cap, cs, rfl, ⟨g1, g2, g3⟩, hl⟩, fun j u hj => ?_⟩
    rw [Addr.add_mid]
    rcases (by omega : j = 0 ∨ j = 1 ∨ j = 2 ∨ j = 3 ∨ 4 ≤ j) with rfl | rfl | rfl | rfl | h4
    · cases hj; exact c0
    · cases hj; exact c1
    · cases hj; exact c2
    · cases hj; exact c3
    · have hj' : cs[j - 4]? = some u := by
        rw [List.getElem?_append_right (by simpa [ic] using h4)] at hj
        simpa [ic] using hj
      have := hc _ _ hj'
      rw [Addr.add_mid] at this
      rwa [show o + 4 + (j - 4) = o + j by omega] at this

end Go.Proofs.Ytmihoeholcaokaa

/- Lists of numbers, lists of fields held against each other; two nodes held against each other. -/
namespace Go.Proofs.Ytmihoeholcaokaa
open Go.RowKit

theorem list_ne_at {α : Type} {xs ys : List α} {k : Nat} (h : xs[k]? ≠ ys[k]?) : xs ≠ ys := fun e => h (by rw [e])
theorem list_eq_upto {α : Type} {xs ys : List α} (hl : xs.length = ys.length) (h : ∀ j, j < xs.length → xs[j]? = ys[j]?) : xs = ys := List.ext_getElem? fun j => by
  by_cases hj : j < xs.length
  · exact h j hj
  · rw [List.getElem?_eq_none (by omega), List.getElem?_eq_none (by omega)]
open Classical in
noncomputable def sameL {α : Type} (a b : List α) : Bool := decide (a = b)
theorem sameL_true {α : Type} {a b : List α} : sameL a b = true ↔ a = b := by simp [sameL]
theorem sameL_false {α : Type} {a b : List α} : sameL a b = false ↔ a ≠ b := by simp [sameL]
theorem sameL_of {α : Type} {a b : List α} {r : Bool} (h : r = true ↔ a = b) : sameL a b = r := by
  cases r
  · exact sameL_false.2 fun e => by simpa using h.2 e
  · exact sameL_true.2 (h.1 rfl)
theorem Rd.get' {w : World} {n : Nat} {k : IntKind} {A : Option Addr} {xs : List Int} (h : Rd w n k A xs) {i : Nat} (hi : i < xs.length) : ∃ b o x, A = some ⟨b, o, none⟩ ∧ b < n ∧ xs[i]? = some x ∧ w.cell? ⟨b, o + i, none⟩ = some (.int k x) := by
  obtain ⟨b, o, rfl, h1, h2⟩ := h.get hi
  refine ⟨b, o, xs[i], rfl, h1, List.getElem?_eq_getElem hi, ?_⟩
  rw [h2, List.getD_eq_getElem?_getD, List.getElem?_eq_getElem hi]
  rfl

set_option maxRecDepth 100000 in
set_option maxHeartbeats 1000000 in
theorem eq_ints (xs ys : List Int) (A B : Option Addr) (ca cb n : Nat) (w : World) (hn : n ≤ w.heap.size) (hx : Rd w n .i64 A xs) (hy : Rd w n .i64 B ys) (hm : xs.length ≤ 1099511627776) :
    Calls Try.prog 35 #[.slice A xs.length ca, .slice B ys.length cb] w fun e w' => e = .returned (.bool (sameL xs ys)) ∧ Below w.heap.size w w' := by
  by_cases hl : xs.length = ys.length
  · have HL := Lib.hid hl
    obtain ⟨m, hmm⟩ : ∃ m, xs.length = m := ⟨_, rfl⟩
    rw [← hl, hmm]
    rw [hmm] at hm
    have HM := Lib.hid hmm
    have HX : Hid (∀ w', Below w.heap.size w w' → Rd w' n .i64 A xs) := Lib.hid fun w' hb => hx.below (hb.mono hn)
    have HY : Hid (∀ w', Below w.heap.size w w' → Rd w' n .i64 B ys) := Lib.hid fun w' hb => hy.below (hb.mono hn)
    clear hl hmm hx hy
    go_enter Try.func35, Try.ntmps35
    go_wp2_with fail
    go_loopw [5, 13] (fun v i wr => ∃ k : Nat, k ≤ m ∧ i = .int .i64 (k : Int) ∧ Hid (Below w.heap.size w wr) ∧ Hid (∀ j, j < k → xs[j]? = ys[j]?)) (fun _ i _ => m - (intOf i).toNat)
    case atStart => exact ⟨0, by omega, rfl, Lib.hid (Below.refl _ _), Lib.hid fun j hj => absurd hj (by omega)⟩
    case round =>
      obtain ⟨k, hk, rfl, HB, HE⟩ := hrel
      by_cases hlt : k < m
      · obtain ⟨b1, o1, x, rfl, -, X, c1⟩ := (HX.out wr HB.out).get' (i := k) (by rw [HM.out]; exact hlt)
        obtain ⟨b2, o2, y, rfl, -, Y, c2⟩ := (HY.out wr HB.out).get' (i := k) (by rw [← HL.out, HM.out]; exact hlt)
        have HXK := Lib.hid X
        have HYK := Lib.hid Y
        clear X Y
        skip
        by_cases e : x = y
        · have HEE := Lib.hid e
          subst e
          go_wp2_with fail
          go_quiet (fail)
          have HQ := Lib.hid (below_drewN (Below.refl wr.heap.size wr) nq)
          generalize wr.drewN nq = w2 at *
          go_wp2_with fail
          go_roundw
          case rel => exact ⟨k + 1, by omega, by simp, Lib.hid (HB.out.trans (HQ.out.mono HB.out.size)), Lib.hid fun j hj => by
            by_cases e : j = k
            · subst e; rw [HXK.out, HYK.out]
            · exact HE.out j (by omega)⟩
          case measure => simp [intOf]; omega
        · have HF : Hid (sameL xs ys = false) := Lib.hid (sameL_false.2 (list_ne_at (k := k) (by rw [HXK.out, HYK.out]; exact fun h => e (by injection h))))
          have e1 : (x != y) = true := by simp [e]
          go_wp2_with fail
          go_quiet (fail)
          have HQ := Lib.hid (below_drewN (Below.refl wr.heap.size wr) nq)
          generalize wr.drewN nq = w2 at *
          go_wp2_with fail
          go_ret
          exact ⟨by rw [HF.out]; rfl, HB.out.trans (HQ.out.mono HB.out.size)⟩
      · obtain rfl : k = m := by omega
        have HF : Hid (sameL xs ys = true) := Lib.hid (sameL_true.2 (list_eq_upto HL.out (by rw [HM.out]; exact HE.out)))
        go_wp2_with fail
        go_ret
        exact ⟨by rw [HF.out]; rfl, HB.out⟩
  · have HF : Hid (sameL xs ys = false) := Lib.hid (sameL_false.2 fun e => hl (by rw [e]))
    have hne : ((xs.length : Int) != ys.length) = true := by simp; omega
    go_enter Try.func35, Try.ntmps35
    go_wp2_with fail
    go_ret
    exact ⟨by rw [HF.out]; rfl, Below.refl _ _⟩

set_option maxRecDepth 100000 in
set_option maxHeartbeats 1000000 in
theorem eq_fields (xs ys : List Fl) (A B : Option Addr) (ca cb n : Nat) (w : World) (hn : n ≤ w.heap.size) (hx : RdF w n A xs) (hy : RdF w n B ys) (hm : xs.length ≤ 1099511627776) :
    Calls Try.prog 36 #[.slice A xs.length ca, .slice B ys.length cb] w fun e w' => e = .returned (.bool (sameL xs ys)) ∧ Below w.heap.size w w' := by
  by_cases hl : xs.length = ys.length
  · have HL := Lib.hid hl
    obtain ⟨m, hmm⟩ : ∃ m, xs.length = m := ⟨_, rfl⟩
    rw [← hl, hmm]
    rw [hmm] at hm
    have HM := Lib.hid hmm
    have HX : Hid (∀ w', Below w.heap.size w w' → RdF w' n A xs) := Lib.hid fun w' hb => hx.keep (hb.mono hn)
    have HY : Hid (∀ w', Below w.heap.size w w' → RdF w' n B ys) := Lib.hid fun w' hb => hy.keep (hb.mono hn)
    clear hl hmm hx hy
    go_enter Try.func36, Try.ntmps36
    go_wp2_with fail
    go_loopw [5, 13] (fun v i wr => ∃ k : Nat, k ≤ m ∧ i = .int .i64 (k : Int) ∧ Hid (Below w.heap.size w wr) ∧ Hid (∀ j, j < k → xs[j]? = ys[j]?)) (fun _ i _ => m - (intOf i).toNat)
    case atStart => exact ⟨0, by omega, rfl, Lib.hid (Below.refl _ _), Lib.hid fun j hj => absurd hj (by omega)⟩
    case round =>
      obtain ⟨k, hk, rfl, HB, HE⟩ := hrel
      by_cases hlt : k < m
      · obtain ⟨b1, o1, x, rfl, -, -, X, c1, c2, c3⟩ := (HX.out wr HB.out).get (i := k) (by rw [HM.out]; exact hlt)
        obtain ⟨b2, o2, y, rfl, -, -, Y, d1, d2, d3⟩ := (HY.out wr HB.out).get (i := k) (by rw [← HL.out, HM.out]; exact hlt)
        have HXK := Lib.hid X
        have HYK := Lib.hid Y
        clear X Y
        obtain ⟨k1, n1, q1⟩ := x
        obtain ⟨k2, n2, q2⟩ := y
        simp only at c1 c2 c3 d1 d2 d3
        by_cases e : k1 = k2 ∧ n1 = n2 ∧ q1 = q2
        · have HEE := Lib.hid e
          obtain ⟨rfl, rfl, rfl⟩ := e
          go_wp2_with fail
          go_quiet (fail)
          have HQ := Lib.hid (below_drewN (Below.refl wr.heap.size wr) nq)
          generalize wr.drewN nq = w2 at *
          go_wp2_with fail
          go_roundw
          case rel => exact ⟨k + 1, by omega, by simp, Lib.hid (HB.out.trans (HQ.out.mono HB.out.size)), Lib.hid fun j hj => by
            by_cases e : j = k
            · subst e; rw [HXK.out, HYK.out]
            · exact HE.out j (by omega)⟩
          case measure => simp [intOf]; omega
        · have HF : Hid (sameL xs ys = false) := Lib.hid (sameL_false.2 (list_ne_at (k := k) (by rw [HXK.out, HYK.out]; exact fun h => e (by injection h with h; simpa using h))))
          obtain ⟨ek, en, eq⟩ | ⟨ek, en⟩ | ek : (k1 = k2 ∧ n1 = n2 ∧ ¬ q1 = q2) ∨ (k1 = k2 ∧ ¬ n1 = n2) ∨ ¬ k1 = k2 := by
            by_cases ek : k1 = k2 <;> by_cases en : n1 = n2 <;> by_cases eq : q1 = q2 <;> simp_all
          · subst ek en
            have e1 : (q1 == q2) = false := by simpa using eq
            clear e eq
            go_wp2_with fail
            go_quiet (fail)
            have HQ := Lib.hid (below_drewN (Below.refl wr.heap.size wr) nq)
            generalize wr.drewN nq = w2 at *
            go_wp2_with fail
            go_ret
            exact ⟨by rw [HF.out]; rfl, HB.out.trans (HQ.out.mono HB.out.size)⟩
          · subst ek
            have e1 : (n1 == n2) = false := by simpa using en
            clear e en
            go_wp2_with fail
            go_quiet (fail)
            have HQ := Lib.hid (below_drewN (Below.refl wr.heap.size wr) nq)
            generalize wr.drewN nq = w2 at *
            go_wp2_with fail
            go_ret
            exact ⟨by rw [HF.out]; rfl, HB.out.trans (HQ.out.mono HB.out.size)⟩
          · have e1 : (k1.toList == k2.toList) = false := beq_eq_false_iff_ne.2 fun h => ek (text_eq h)
            clear e ek
            go_wp2_with fail
            go_quiet (fail)
            have HQ := Lib.hid (below_drewN (Below.refl wr.heap.size wr) nq)
            generalize wr.drewN nq = w2 at *
            go_wp2_with fail
            go_ret
            exact ⟨by rw [HF.out]; rfl, HB.out.trans (HQ.out.mono HB.out.size)⟩
      · obtain rfl : k = m := by omega
        have HF : Hid (sameL xs ys = true) := Lib.hid (sameL_true.2 (list_eq_upto HL.out (by rw [HM.out]; exact HE.out)))
        go_wp2_with fail
        go_ret
        exact ⟨by rw [HF.out]; rfl, HB.out⟩
  · have HF : Hid (sameL xs ys = false) := Lib.hid (sameL_false.2 fun e => hl (by rw [e]))
    have hne : ((xs.length : Int) != ys.length) = true := by simp; omega
    go_enter Try.func36, Try.ntmps36
    go_wp2_with fail
    go_ret
    exact ⟨by rw [HF.out]; rfl, Below.refl _ _⟩
end Go.Proofs.Ytmihoeholcaokaa
