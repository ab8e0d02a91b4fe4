/- The document's over: deeper, wider, longer texts than are looked at. -/
import Derived.Test.YtgcgidoikpbfpaaKAQ
import Derived.Test.YtgcgidoikpbfpaaKAL
namespace Go.Proofs.Ytgcgidoikpbfpaa
open Go.RowKit

def overB : Nat → It → Bool
  | 0, _ => true
  | d + 1, t => decide (200 < t.l.length) || decide (300 < t.s.size) || t.l.any (overB d)
theorem any_none {l : List It} {p : It → Bool} (h : ∀ (j : Nat) (X : It), l[j]? = some X → p X = false) : l.any p = false := by
  rw [List.any_eq_false]
  intro x hx
  obtain ⟨j, hj⟩ := List.mem_iff_getElem?.1 hx
  simp [h j x hj]

set_option maxRecDepth 100000 in
set_option maxHeartbeats 2000000 in
theorem ref_over : ∀ (d : Nat) (x : It) (A : Option Addr) (cap : Nat) (w : World), d ≤ 80 → x.count ≤ 1099511627776 → AtV w x A cap →
    Calls Try.prog 11 #[vI x A cap, .int .i64 (d : Int)] w fun e w' => e = .returned (.bool (overB d x)) ∧ Below w.heap.size w w' := by
  intro d
  induction d with
  | zero =>
    intro x A cap w _ _ _
    go_enter Try.func11, Try.ntmps11
    unfold vI
    go_wp2_with fail
    go_ret
    exact ⟨rfl, below_alloc w _⟩
  | succ d ih =>
    intro x A cap w hd hbig h
    simp only [vI] at ih
    have IH := Lib.hid ih
    clear ih
    have hdi : ((d + 1 : Nat) : Int) = (d : Int) + 1 := by omega
    have hd0 : (0 : Int) ≤ d := by omega
    have hd8 : (d : Int) < 80 := by omega
    have HD := Lib.hid (fun _ : Unit => (show d ≤ 80 by omega))
    rw [hdi]
    clear hdi hd
    obtain ⟨k, n, s, l⟩ := x
    have hml : (l.length : Int) < 1099511627776 := by
      have := length_le_countL l
      simp only [It.count] at hbig; omega
    by_cases hw : 200 < l.length ∨ 300 < s.size
    · have HF : RowKit.Hid (overB (d + 1) (It.mk k n s l) = true) := Lib.hid (by
        show (decide (200 < l.length) || decide (300 < s.size) || l.any (overB d)) = true
        rcases hw with h | h <;> simp [h])
      have HW := Lib.hid (fun _ : Unit => hw)
      clear hw hbig hml
      generalize hz : overB (d + 1) (It.mk k n s l) = z at *
      clear hz
      go_enter Try.func11, Try.ntmps11
      simp only [vI, It.k, It.n, It.s, It.l]
      go_wp2_with fail
      all_goals first
        | (go_ret; exact ⟨by rw [HF.out]; rfl, below_alloc w _⟩)
        | (exfalso; rcases HW.out () with h | h <;> omega)
    · obtain ⟨w1, hw1, b1, S⟩ := iblk1 w 25 #[.int .i64 k, .int .u64 n, .string s, .slice A l.length cap]
      obtain ⟨p0, p1, p2, p3, -⟩ := iblk b1
      have H1 := Lib.hid (h.on S)
      have HS := Lib.hid S
      have HC : RowKit.Hid (∀ X, X ∈ l → X.count ≤ 1099511627776) := Lib.hid fun X hX => by
        have := count_le_of_mem hX
        simp only [It.count] at hbig; omega
      have h2 : (l.length : Int) ≤ 200 := by omega
      have h3 : (s.size : Int) ≤ 300 := by omega
      have HF : RowKit.Hid (overB (d + 1) (It.mk k n s l) = l.any (overB d)) := Lib.hid (by
        have e1 : decide (200 < l.length) = false := by simp; omega
        have e2 : decide (300 < s.size) = false := by simp; omega
        show (decide (200 < l.length) || decide (300 < s.size) || l.any (overB d)) = _
        rw [e1, e2]
        rfl)
      clear h S hbig b1 hw hml
      go_enter Try.func11, Try.ntmps11
      simp only [vI, It.k, It.n, It.s, It.l]
      obtain ⟨m, hm⟩ : ∃ m, l.length = m := ⟨_, rfl⟩
      rw [hm] at hw1 p3 h2 ⊢
      have HM := Lib.hid hm
      clear hm
      have e0 : ((d : Int) + 1 == 0) = false := by simp; omega
      have e1 : decide ((200 : Int) < m) = false := by simp; omega
      have e2 : decide ((300 : Int) < s.size) = false := by simp; omega
      have hde : (d : Int) + 1 - 1 = d := by omega
      go_wp2_with fail
      clear hw1
      have HG := Lib.hid (block_lt_of_cell p0)
      generalize hgg : w.heap.size = g at *
      have HGG := Lib.hid hgg
      clear hgg
      go_loopw [5] (fun i wr => ∃ j : Nat, j ≤ m ∧ i = .int .i64 (j : Int) ∧ RowKit.Hid (Below w1.heap.size w1 wr) ∧ RowKit.Hid (∀ j' X, j' < j → l[j']? = some X → overB d X = false)) (fun i _ => m - (intOf i).toNat)
      case atStart => exact ⟨0, by omega, rfl, Lib.hid (Below.refl _ _), Lib.hid fun j X hj => absurd hj (by omega)⟩
      case round =>
        obtain ⟨j, hj, rfl, HB, HE⟩ := hrel
        have p3' := (HB.out.cell (p := ⟨g, 3, none⟩) HG.out).trans p3
        by_cases hlt : j < m
        · obtain ⟨i1, o1, X, A1', c1', rfl, hb1, hX, mX, x0, x1, x2, x3, hx⟩ := (H1.out.on HB.out).at_.item (i := j) (by show j < l.length; rw [HM.out]; exact hlt)
          have hcc := IH.out X A1' c1' wr (HD.out ()) (HC.out X mX) hx
          obtain ⟨r, hr⟩ : ∃ r, overB d X = r := ⟨_, rfl⟩
          rw [hr] at hcc
          have HX := Lib.hid (show l[j]? = some X from hX)
          have HR := Lib.hid hr
          have HCC := Lib.hid hcc
          have HMX := Lib.hid (show X ∈ l from mX)
          clear hx hX hcc mX hr
          cases r
          · go_wp2_with (go_at_call 11; refine HCC.out.mono ?_; rintro e w3 ⟨rfl, hb3⟩; have HB3 := Lib.hid hb3; clear hb3)
            go_roundw
            case rel =>
              refine ⟨j + 1, by omega, by simp, Lib.hid (HB.out.trans (HB3.out.mono HB.out.size)), Lib.hid fun j' X' hj' hX' => ?_⟩
              by_cases e : j' = j
              · subst e
                have h1 := HX.out
                rw [hX'] at h1
                injection h1 with h1
                rw [h1]
                exact HR.out
              · exact HE.out j' X' (by omega) hX'
            case measure => simp [intOf]; omega
          · go_wp2_with (go_at_call 11; refine HCC.out.mono ?_; rintro e w3 ⟨rfl, hb3⟩; have HB3 := Lib.hid hb3; clear hb3)
            go_ret
            refine ⟨?_, by rw [HGG.out]; exact HS.out.trans ((HB.out.trans (HB3.out.mono HB.out.size)).mono (by have := HG.out; omega))⟩
            rw [HF.out, List.any_eq_true.2 ⟨X, HMX.out, HR.out⟩]
            rfl
        · obtain rfl : j = m := by omega
          go_wp2_with fail
          go_ret
          refine ⟨?_, by rw [HGG.out]; exact HS.out.trans (HB.out.mono (by have := HG.out; omega))⟩
          rw [HF.out, any_none fun j' X hX => HE.out j' X (by
            have h1 := HM.out
            have h2 : j' < l.length := by
              rcases Nat.lt_or_ge j' l.length with h | h
              · exact h
              · rw [List.getElem?_eq_none h] at hX; cases hX
            omega) hX]
          rfl
end Go.Proofs.Ytgcgidoikpbfpaa

/- Items by value on slices of the call's own. -/
namespace Go.Proofs.Ytgcgidoikpbfpaa
open Go.RowKit

/-- An item's items lie in memory, all below block n. -/
structure AtB (w : World) (n : Nat) (t : It) (A : Option Addr) (cap : Nat) : Prop where
  le : t.l.length ≤ cap
  nil : A = none → cap = 0
  at_ : AtL w (· < n) t.l A
def ic (t : It) (A : Option Addr) (cap : Nat) : List Value := [.int .i64 t.k, .int .u64 t.n, .string t.s, .slice A t.l.length cap]
theorem ic_one (t : It) (A : Option Addr) (cap : Nat) : ∀ u ∈ ic t A cap, u.oneCell' = true := by
  intro u hu
  simp only [ic, List.mem_cons, List.not_mem_nil, or_false] at hu
  rcases hu with rfl | rfl | rfl | rfl <;> rfl
/-- The cells of items, one behind the other. -/
def Lay (w : World) (n : Nat) : List It → List Value → Prop
  | [], cs => cs = []
  | t :: r, cs => ∃ A cap cs', cs = ic t A cap ++ cs' ∧ AtB w n t A cap ∧ Lay w n r cs'
/-- A slice of the call's own that reads as items. -/
def OwnI (w : World) (n B : Nat) (v : Value) (its : List It) : Prop := ∃ cs, w.ownsRow B 25 4 v its.length cs ∧ Lay w n its cs
section
variable {w w' : World} {n n' B g cap : Nat} {t : It} {A : Option Addr} {v : Value} {its xs : List It} {cs cs' : List Value}
theorem AtB.toV (h : AtB w n t A cap) : AtV w t A cap := ⟨h.le, h.nil, h.at_.more fun _ _ => trivial⟩
theorem AtB.keep (h : AtB w n t A cap) (hb : Below n w w') : AtB w' n t A cap := ⟨h.le, h.nil, AtL.keep (fun b hlt _ => hb.block b hlt) (fun _ h => h) _ _ h.at_⟩
theorem AtB.more (h : AtB w n t A cap) (hn : n ≤ n') : AtB w n' t A cap := ⟨h.le, h.nil, h.at_.more fun _ h => Nat.lt_of_lt_of_le h hn⟩
theorem AtV.toB (h : AtV w t A cap) : AtB w w.heap.size t A cap := by
  refine ⟨h.le, h.nil, ?_⟩
  have : ∀ (l : List It) (A : Option Addr), AtL w (fun _ => True) l A → AtL w (· < w.heap.size) l A := by
    suffices H : ∀ (c : Nat) (l : List It) (A : Option Addr), countL l ≤ c → AtL w (fun _ => True) l A → AtL w (· < w.heap.size) l A from fun l A => H _ l A (Nat.le_refl _)
    intro c
    induction c with
    | zero =>
      intro l A hc h
      cases l with
      | nil => exact AtL.nil _
      | cons t r => rw [countL, It.count_eq] at hc; omega
    | succ c ih =>
      intro l A hc h
      cases l with
      | nil => exact AtL.nil _
      | cons t r =>
        rw [countL, It.count_eq] at hc
        obtain ⟨b, o, rfl, _, hb, h1, h2⟩ := h.cons
        obtain ⟨A', cap', c0, c1, c2, c3, g1, g2, g3⟩ := h1.parts
        exact AtL.mk hb hb (At1.mk A' cap' c0 c1 c2 c3 g1 g2 (ih _ _ (by omega) g3)) (ih _ _ (by omega) h2)
  exact this _ _ h.at_
/-- Item number i: its cells, and what stands behind them. -/
theorem AtB.item (h : AtB w n t A cap) {i : Nat} (hi : i < t.l.length) : ∃ b o X A' cap', A = some ⟨b, o, none⟩ ∧ b < n ∧ b < w.heap.size ∧ t.l[i]? = some X ∧ X ∈ t.l ∧
    w.cell? ⟨b, o + i * 4, none⟩ = some (.int .i64 X.k) ∧ w.cell? ⟨b, o + i * 4 + 1, none⟩ = some (.int .u64 X.n) ∧ w.cell? ⟨b, o + i * 4 + 2, none⟩ = some (.string X.s) ∧
    w.cell? ⟨b, o + i * 4 + 3, none⟩ = some (.slice A' X.l.length cap') ∧ AtB w n X A' cap' := by
  obtain ⟨b, o, rfl, hn, hb, h1, _⟩ := h.at_.get hi
  rw [Nat.mul_comm 4 i] at h1
  obtain ⟨A', cap', c0, c1, c2, c3, g1, g2, g3⟩ := h1.parts
  exact ⟨b, o, t.l[i], A', cap', rfl, hn, hb, List.getElem?_eq_getElem hi, List.getElem_mem hi, c0, c1, c2, c3, g1, g2, g3⟩
theorem Lay.one (h : AtB w n t A cap) : Lay w n [t] (ic t A cap) := ⟨A, cap, [], by simp, h, rfl⟩
theorem Lay.append : ∀ {its : List It} {cs : List Value}, Lay w n its cs → Lay w n xs cs' → Lay w n (its ++ xs) (cs ++ cs')
  | [], cs, h, k => by cases (show cs = [] from h); exact k
  | t :: r, cs, ⟨A, cap, c, e, h1, h2⟩, k => ⟨A, cap, c ++ cs', by rw [e, List.append_assoc], h1, Lay.append h2 k⟩
theorem Lay.keep (hb : Below n w w') : ∀ {its : List It} {cs : List Value}, Lay w n its cs → Lay w' n its cs
  | [], _, h => h
  | _ :: _, _, ⟨A, cap, c, e, h1, h2⟩ => ⟨A, cap, c, e, h1.keep hb, Lay.keep hb h2⟩
theorem Lay.more (hn : n ≤ n') : ∀ {its : List It} {cs : List Value}, Lay w n its cs → Lay w n' its cs
  | [], _, h => h
  | _ :: _, _, ⟨A, cap, c, e, h1, h2⟩ => ⟨A, cap, c, e, h1.more hn, Lay.more hn h2⟩
theorem Lay.one_cell : ∀ {its : List It} {cs : List Value}, Lay w n its cs → ∀ u ∈ cs, u.oneCell' = true
  | [], cs, h, u, hu => by cases (show cs = [] from h); cases hu
  | t :: r, cs, ⟨A, cap, c, e, h1, h2⟩, u, hu => by
    subst e
    rcases List.mem_append.1 hu with h | h
    · exact ic_one _ _ _ u h
    · exact h2.one_cell u h
theorem Lay.length : ∀ {its : List It} {cs : List Value}, Lay w n its cs → cs.length = its.length * 4
  | [], cs, h => by cases (show cs = [] from h); rfl
  | t :: r, cs, ⟨A, cap, c, e, h1, h2⟩ => by
    subst e
    have := h2.length
    simp only [List.length_append, List.length_cons, ic, List.length_nil, this]
    omega
theorem Lay.get : ∀ {its : List It} {cs : List Value}, Lay w n its cs → ∀ {i : Nat} {X : It}, its[i]? = some X → ∃ A cap, cs[i * 4]? = some (.int .i64 X.k) ∧ cs[i * 4 + 1]? = some (.int .u64 X.n) ∧ cs[i * 4 + 2]? = some (.string X.s) ∧ cs[i * 4 + 3]? = some (.slice A X.l.length cap) ∧ AtB w n X A cap
  | [], _, _, i, X, hX => by cases hX
  | t :: r, cs, ⟨A, cap, c, e, h1, h2⟩, i, X, hX => by
    subst e
    cases i with
    | zero =>
      obtain rfl : t = X := by simpa using hX
      exact ⟨A, cap, rfl, rfl, rfl, rfl, h1⟩
    | succ i =>
      obtain ⟨A', cap', c0, c1, c2, c3, h⟩ := h2.get (i := i) (X := X) (by simpa using hX)
      refine ⟨A', cap', ?_, ?_, ?_, ?_, h⟩ <;> rw [show (i + 1) * 4 = i * 4 + 4 by omega]
      · exact c0
      · exact c1
      · exact c2
      · exact c3
theorem OwnI.keepB (h : OwnI w n B v its) (hb : Below w.heap.size w w') (hn : n ≤ w.heap.size) : OwnI w' n B v its :=
  let ⟨cs, h1, h2⟩ := h
  ⟨cs, oc_on h1 hb, h2.keep (hb.mono hn)⟩
theorem OwnI.less (h : OwnI w n B v its) {B' : Nat} (hB : B' ≤ B) : OwnI w n B' v its :=
  let ⟨cs, h1, h2⟩ := h
  ⟨cs, oc_less h1 hB, h2⟩
/-- While another slice is appended to. -/
theorem OwnI.kept (h : OwnI w n B v its) {row : Option Nat} (hg : w.grownBy w' row) (hb : Below n w w') (hne : v.ownBlock ≠ row ∨ v.ownBlock = none) : OwnI w' n B v its :=
  let ⟨cs, h1, h2⟩ := h
  ⟨cs, h1.kept hg hne.symm, h2.keep hb⟩
theorem OwnI.form (h : OwnI w n B v its) (hn : 0 < its.length) : ∃ g cap, v = .slice (some ⟨g, 0, none⟩) its.length cap ∧ its.length ≤ cap ∧ cap ≤ maxLen ∧ B ≤ g ∧ g < w.heap.size :=
  let ⟨_, h1, _⟩ := h
  oc_head h1 hn
theorem OwnI.item (h : OwnI w n B (.slice (some ⟨g, 0, none⟩) its.length cap) its) {i : Nat} (hi : i < its.length) : ∃ X A' cap', its[i]? = some X ∧ X ∈ its ∧
    w.cell? ⟨g, i * 4, none⟩ = some (.int .i64 X.k) ∧ w.cell? ⟨g, i * 4 + 1, none⟩ = some (.int .u64 X.n) ∧ w.cell? ⟨g, i * 4 + 2, none⟩ = some (.string X.s) ∧
    w.cell? ⟨g, i * 4 + 3, none⟩ = some (.slice A' X.l.length cap') ∧ AtB w n X A' cap' := by
  obtain ⟨cs, h1, h2⟩ := h
  have hX := List.getElem?_eq_getElem hi
  obtain ⟨A, c, c0, c1, c2, c3, h3⟩ := h2.get hX
  exact ⟨its[i], A, c, hX, List.getElem_mem hi, (oc_cell h1 (by omega)).1.trans c0, (oc_cell h1 (by omega)).1.trans c1, (oc_cell h1 (by omega)).1.trans c2, (oc_cell h1 (by omega)).1.trans c3, h3⟩
end
theorem infoItem : (Try.prog.info? 25).map (fun i => (i.zero, i.size, i.bytes)) = some (some (.agg #[.int .i64 0, .int .u64 0, .string ⟨#[]⟩, .slice none 0 0]), 4, 56) := by kernel_rfl
theorem sizeItem : (Try.prog.info? 25).map (·.size) = some 4 := by kernel_rfl
/-- append of items to a slice of the call's own. -/
theorem run_append_items {w : World} {n B : Nat} {ty : TypeId} {v v2 : Value} {its xs : List It} {B2 : Nat} (hown : OwnI w n B v its) (h2 : OwnI w n B2 v2 xs) (hx : 0 < xs.length) (hsz : its.length + xs.length ≤ 1099511627776) (hB : B ≤ w.heap.size) (hn : n ≤ B) :
    ∃ v' w', (Builtin.append_ #[23, 23] ty #[v, v2]).run Try.prog w = .ok v' w' ∧ OwnI w' n B v' (its ++ xs) ∧ Below B w w' ∧ w.grownBy w' v.ownBlock := by
  obtain ⟨cs, o1, l1⟩ := hown
  obtain ⟨cs2, o2, l2⟩ := h2
  obtain ⟨g2, cap2, rfl, _, _, _, _⟩ := oc_head o2 hx
  obtain ⟨v', w', r1, r2, r3, r4, _⟩ := oc_append (P := Try.prog) (t := 23) (ty := ty) (e := 25) (s := 4) (bytes := 56) (m := xs.length) (c := cap2) (news := cs2) (a := ⟨g2, 0, none⟩) (by kernel_rfl) infoItem rfl (by decide) (by decide) o1 l2.length
    (fun j u hj => by
      have hj' : j < xs.length * 4 := by
        rw [← l2.length]
        rcases Nat.lt_or_ge j cs2.length with h | h
        · exact h
        · rw [List.getElem?_eq_none h] at hj; cases hj
      rw [Addr.add_mid, Nat.zero_add]
      exact (oc_cell o2 hj').1.trans hj) l2.one_cell hsz hB
  exact ⟨v', w', r1, ⟨cs ++ cs2, by rw [List.length_append]; exact r2, (l1.append l2).keep (r3.mono hn)⟩, r3, r4⟩
end Go.Proofs.Ytgcgidoikpbfpaa
