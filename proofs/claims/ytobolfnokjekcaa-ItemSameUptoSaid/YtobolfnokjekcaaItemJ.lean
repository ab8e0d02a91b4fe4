
/- Package item: Same; a list's clone. -/
import Derived.Test.YtobolfnokjekcaaItemI
import Derived.Lib.SliceRun
namespace Go.Proofs.Ytobolfnokjekcaa
open Go.RowKit

theorem item_Same (x y : It) (A1 A2 : Option Addr) (c1 c2 n : Nat) (w : World) (hc : x.count ≤ 1099511627775) (hn : n ≤ w.heap.size) (h1 : AtB w n x A1 c1) (h2 : AtB w n y A2 c2) :
    Calls Try.prog 15 #[vI x A1 c1, vI y A2 c2] w fun e w' => e = .returned (.bool (sameB x y)) ∧ Below w.heap.size w w' := by
  obtain ⟨w1, hw1, b1, b2, S⟩ := iblk2 w 25 #[.int .i64 x.k, .int .u64 x.n, .string x.s, .slice A1 x.l.length c1] #[.int .i64 y.k, .int .u64 y.n, .string y.s, .slice A2 y.l.length c2]
  obtain ⟨p0, p1, p2, p3, -⟩ := iblk b1
  obtain ⟨q0, q1, q2, q3, -⟩ := iblk b2
  have C := item_compare x y A1 A2 c1 c2 n w1 hc (Nat.le_trans hn S.size) (h1.keep (S.mono hn)) (h2.keep (S.mono hn))
  have HS := Lib.hid S
  rw [sameB_itC]
  clear h1 h2 hc hn S b1 b2
  obtain ⟨z, hz⟩ : ∃ z, itC x y = z := ⟨_, rfl⟩
  rw [hz] at C ⊢
  clear hz
  simp only [vI] at C ⊢
  have HC := Lib.hid C
  clear C
  go_enter Try.func15, Try.ntmps15
  go_wp2_with (go_at_call 22; refine HC.out.mono ?_; rintro e w2 ⟨rfl, hb2⟩; have HB2 := Lib.hid (HS.out.trans (hb2.mono HS.out.size)); clear hb2)
  go_ret
  exact ⟨by by_cases h : z = 0 <;> simp [h], HB2.out⟩

/-- The cells of a list in memory. -/
theorem lay_of : ∀ {l : List It} {w : World} {n : Nat} {a : Addr}, AtL w (· < n) l (some a) → ∃ cs, Lay w n l cs ∧ ∀ j u, cs[j]? = some u → w.cell? (a.add j) = some u
  | [], w, n, a, _ => ⟨[], rfl, fun j u h => by cases h⟩
  | t :: r, w, n, a, h => by
    obtain ⟨b, o, e, hb, hlt, h1, h2⟩ := h.cons
    injection e with e
    subst e
    obtain ⟨A, cap, c0, c1, c2, c3, g1, g2, g3⟩ := h1.parts
    obtain ⟨cs, hl, hc⟩ := lay_of h2
    refine ⟨ic t A cap ++ cs, ⟨A, cap, cs, rfl, ⟨g1, g2, g3⟩, hl⟩, fun j u hj => ?_⟩
    rw [Addr.add_mid]
    rcases (by omega : j = 0 ∨ j = 1 ∨ j = 2 ∨ j = 3 ∨ 4 ≤ j) with rfl | rfl | rfl | rfl | h4
    · cases hj; exact c0
    · cases hj; exact c1
    · cases hj; exact c2
    · cases hj; exact c3
    · have hj' : cs[j - 4]? = some u := by
        rw [List.getElem?_append_right (by simpa [ic] using h4)] at hj
        simpa [ic] using hj
      have := hc _ _ hj'
      rw [Addr.add_mid] at this
      rwa [show o + 4 + (j - 4) = o + j by omega] at this

set_option maxRecDepth 100000 in
/-- A list's clone. -/
theorem items_clone (l : List It) (A : Option Addr) (cap n : Nat) (w : World) (hl : l.length ≤ 1099511627775) (hn : n ≤ w.heap.size) (h : RL w n l A cap) :
    Calls Try.prog 23 #[.slice A l.length cap] w fun e w' => ∃ v, e = .returned v ∧ OwnI w' n w.heap.size v l ∧ Below w.heap.size w w' := by
  cases A with
  | none =>
    have h0 := h.nil rfl
    have hl0 : l.length = 0 := by have := h.le; omega
    have he : l = [] := List.eq_nil_of_length_eq_zero hl0
    subst he
    subst h0
    clear hl h hn hl0
    have hnl := fun (W : World) (A : Option Addr) (m c : Nat) => Lib.run_eql_slice_nil (P := Try.prog) W 23 25 A m c 0 0 (by kernel_rfl)
    go_enter Try.func23, Try.ntmps23
    go_wp2
    refine bodyPost_ret (results_tmp rfl _ _ _) rfl ?_
    exact ⟨_, rfl, ⟨[], World.ownsRow_nil _ _ _ _, rfl⟩, Below.refl _ _⟩
  | some a =>
    have S := below_alloc w (.cells #[] 25)
    obtain ⟨cs, hy, hc⟩ := lay_of (h.keep (S.mono hn)).at_
    have o1 : (w.alloc (.cells #[] 25)).ownsRow w.heap.size 25 4 (.slice (some ⟨w.heap.size, 0, none⟩) 0 0) 0 [] := oc_new w w.heap.size 25 4 0 #[] rfl (Nat.le_refl _) (by unfold maxLen; omega)
    obtain ⟨v', w', r1, r2, r3, _, _⟩ := oc_append (P := Try.prog) (t := 23) (ty := 23) (c := cap) (m := l.length) (news := cs) (by kernel_rfl) infoItem rfl (by decide) (by decide) o1 hy.length hc hy.one_cell (by omega) (by simp)
    have HR := Lib.hid r1
    have HP : RowKit.Hid (OwnI w' n w.heap.size v' l) := Lib.hid ⟨cs, by simpa using r2, hy.keep (r3.mono hn)⟩
    have HB := Lib.hid (S.trans r3)
    clear r1 r2 r3 o1 hy hc S h hn hl
    have hnl := fun (W : World) (A : Option Addr) (m c : Nat) => Lib.run_eql_slice_nil (P := Try.prog) W 23 25 A m c 0 0 (by kernel_rfl)
    go_enter Try.func23, Try.ntmps23
    go_wp2_with ((with_reducible refine is_append 23 rfl ?_); (with_reducible refine wpList_append_run rfl rfl HR.out ?_ ?_ ?_); (· rfl); (· rfl))
    refine bodyPost_ret (results_tmp rfl _ _ _) rfl ?_
    exact ⟨_, rfl, HP.out, HB.out⟩
end Go.Proofs.Ytobolfnokjekcaa
