/- The document's Same: two items in memory, whatever they share. -/
import Derived.Test.YtchhbcmkhbfpoaaKAO
import Derived.Test.YtchhbcmkhbfpoaaKAN
import Derived.Test.YtchhbcmkhbfpoaaKAK
import Derived.Test.YtchhbcmkhbfpoaaKAA
import Derived.Carry
namespace Go.Proofs.Ytchhbcmkhbfpoaa
open Go.RowKit

/-- An item by value. -/
def vI (t : It) (A : Option Addr) (cap : Nat) : Value := .agg #[.int .i64 t.k, .int .u64 t.n, .string t.s, .slice A t.l.length cap]
/-- .. and its items in memory. -/
structure AtV (w : World) (t : It) (A : Option Addr) (cap : Nat) : Prop where
  le : t.l.length ≤ cap
  nil : A = none → cap = 0
  at_ : AtL w (fun _ => True) t.l A
theorem AtV.on {w w' : World} {t : It} {A : Option Addr} {cap : Nat} (h : AtV w t A cap) (hb : Below w.heap.size w w') : AtV w' t A cap := ⟨h.le, h.nil, h.at_.on hb⟩
/-- Item number i: its cells, and what stands behind them. -/
theorem AtL.item {w : World} {l : List It} {A : Option Addr} (h : AtL w (fun _ => True) l A) {i : Nat} (hi : i < l.length) : ∃ b o X A' cap', A = some ⟨b, o, none⟩ ∧ b < w.heap.size ∧ l[i]? = some X ∧ X ∈ l ∧
    w.cell? ⟨b, o + i * 4, none⟩ = some (.int .i64 X.k) ∧ w.cell? ⟨b, o + i * 4 + 1, none⟩ = some (.int .u64 X.n) ∧ w.cell? ⟨b, o + i * 4 + 2, none⟩ = some (.string X.s) ∧
    w.cell? ⟨b, o + i * 4 + 3, none⟩ = some (.slice A' X.l.length cap') ∧ AtV w X A' cap' := by
  obtain ⟨b, o, rfl, _, hb, h1, _⟩ := h.get hi
  rw [Nat.mul_comm 4 i] at h1
  obtain ⟨A', cap', c0, c1, c2, c3, g1, g2, g3⟩ := h1.parts
  exact ⟨b, o, l[i], A', cap', rfl, hb, List.getElem?_eq_getElem hi, List.getElem_mem hi, c0, c1, c2, c3, g1, g2, g3⟩

theorem text_eq {a b : ByteArray} (h : a.toList = b.toList) : a = b := by
  rw [ByteArray.toList_eq, ByteArray.toList_eq] at h
  exact ByteArray.ext (Array.toList_inj.1 h)
theorem sameB_fields {x y : It} (h : ¬ (x.k = y.k ∧ x.n = y.n ∧ x.s = y.s ∧ x.l.length = y.l.length)) : sameB x y = false := by
  cases hb : sameB x y
  · rfl
  · rw [sameB_true] at hb
    subst hb
    simp at h


set_option maxRecDepth 100000 in
set_option maxHeartbeats 2000000 in
theorem ref_Same : ∀ (c : Nat) (x y : It) (A1 A2 : Option Addr) (c1 c2 : Nat) (w : World), x.count ≤ c → x.count ≤ 1099511627776 → AtV w x A1 c1 → AtV w y A2 c2 →
    Calls Try.prog 20 #[vI x A1 c1, vI y A2 c2] w fun e w' => e = .returned (.bool (sameB x y)) ∧ Below w.heap.size w w' := by
  intro c
  induction c with
  | zero => intro x y A1 A2 c1 c2 w h; rw [It.count_eq] at h; omega
  | succ c ih =>
    intro x y A1 A2 c1 c2 w hc hbig h1 h2
    simp only [vI] at ih
    have IH := Lib.hid ih
    clear ih
    have hfe := @sameB_fields x y
    obtain ⟨k1, n1, s1, l1⟩ := x
    obtain ⟨k2, n2, s2, l2⟩ := y
    obtain ⟨w1, hw1, b1, b2, S⟩ := iblk2 w 56 #[.int .i64 k1, .int .u64 n1, .string s1, .slice A1 l1.length c1] #[.int .i64 k2, .int .u64 n2, .string s2, .slice A2 l2.length c2]
    obtain ⟨p0, p1, p2, p3, -⟩ := iblk b1
    obtain ⟨q0, q1, q2, q3, -⟩ := iblk b2
    by_cases hf : k1 = k2 ∧ n1 = n2 ∧ s1 = s2 ∧ l1.length = l2.length
    · obtain ⟨rfl, rfl, rfl, hl⟩ := hf
      have H1 := Lib.hid (h1.on S)
      have H2 := Lib.hid (h2.on S)
      have HS := Lib.hid S
      have HC : RowKit.Hid (∀ X, X ∈ l1 → X.count ≤ c ∧ X.count ≤ 1099511627776) := Lib.hid fun X hX => by
        have := count_le_of_mem hX
        simp only [It.count] at hc hbig; omega
      have hml : (l1.length : Int) < 1099511627776 := by
        have := length_le_countL l1
        simp only [It.count] at hbig; omega
      clear hfe h1 h2 S hc hbig b1 b2
      go_enter Try.func20, Try.ntmps20
      simp only [vI, It.k, It.n, It.s, It.l]
      rw [← hl] at hw1 q3 ⊢
      obtain ⟨m, hm⟩ : ∃ m, l1.length = m := ⟨_, rfl⟩
      rw [hm] at hw1 p3 q3 hml ⊢
      have HL := Lib.hid hl
      have HM := Lib.hid hm
      clear hl hm
      go_wp2_with fail
      clear hw1
      have hgs : w.heap.size + 1 < w1.heap.size := block_lt_of_cell q0
      have HG := Lib.hid hgs
      generalize hgg : w.heap.size = g at *
      have HGG := Lib.hid hgg
      clear hgg
      go_loopw [5] (fun i wr => ∃ k : Nat, k ≤ m ∧ i = .int .i64 (k : Int) ∧ RowKit.Hid (Below w1.heap.size w1 wr) ∧ RowKit.Hid (∀ j, j < k → l1[j]? = l2[j]?)) (fun i _ => m - (intOf i).toNat)
      case atStart => exact ⟨0, by omega, rfl, Lib.hid (Below.refl _ _), Lib.hid fun j hj => absurd hj (by omega)⟩
      case round =>
        obtain ⟨k, hk, rfl, HB, HE⟩ := hrel
        have p3' := (HB.out.cell (p := ⟨g, 3, none⟩) (by have := HG.out; show g < _; omega)).trans p3
        have q3' := (HB.out.cell (p := ⟨g + 1, 3, none⟩) HG.out).trans q3
        by_cases hlt : k < m
        · obtain ⟨i1, o1, X, A1', c1', rfl, hb1, hX, mX, x0, x1, x2, x3, hx⟩ := (H1.out.on HB.out).at_.item (i := k) (by show k < l1.length; rw [HM.out]; exact hlt)
          obtain ⟨i2, o2, Y, A2', c2', rfl, hb2, hY, mY, y0, y1, y2, y3, hy⟩ := (H2.out.on HB.out).at_.item (i := k) (by show k < l2.length; rw [← HL.out, HM.out]; exact hlt)
          have HX := Lib.hid (And.intro hX hY)
          have hcc := fun W h1 h2 => IH.out X Y A1' A2' c1' c2' W (HC.out X mX).1 (HC.out X mX).2 (hx.on h1) (hy.on h2)
          obtain ⟨r, hr⟩ : ∃ r, sameB X Y = r := ⟨_, rfl⟩
          rw [hr] at hcc
          have HR := Lib.hid hr
          have HCC := Lib.hid hcc
          have HM' := Lib.hid (And.intro mX mY)
          clear hx hy hX hY hcc mX mY hr
          go_wp2_with fail
          refine wp_region_quiet_tail 10 (by kernel_rfl) (by kernel_rfl) ?_
          simp only [List.take_succ_cons, List.take_zero, List.drop_succ_cons, List.drop_zero]
          repeat (quiet_step (fail))
          refine wpQuiet_nil ?_
          rintro _ ⟨q, rfl⟩
          have HQ := Lib.hid (below_drewN (Below.refl wr.heap.size wr) q)
          generalize wr.drewN q = w2 at *
          cases r
          · go_wp2_with (go_at_call 20; refine (HCC.out w2 HQ.out HQ.out).mono ?_; rintro e w3 ⟨rfl, hb3⟩; have HB3 := Lib.hid hb3; clear hb3)
            go_ret
            refine ⟨?_, by rw [HGG.out]; exact HS.out.trans ((HB.out.trans ((HQ.out.trans (HB3.out.mono HQ.out.size)).mono HB.out.size)).mono (by have := HG.out; omega))⟩
            have hne : sameB (It.mk k1 n1 s1 l1) (It.mk k1 n1 s1 l2) = false := by
              cases hq : sameB (It.mk k1 n1 s1 l1) (It.mk k1 n1 s1 l2)
              · rfl
              · exfalso
                have e1 := sameB_true.1 hq
                injection e1 with _ _ _ e1
                have h1 := HX.out.1
                have h2 := HX.out.2
                simp only [It.l] at h1 h2
                rw [e1, h2] at h1
                injection h1 with h1
                have := HR.out
                rw [h1, sameB_refl] at this
                cases this
            rw [hne]
            rfl
          · go_wp2_with (go_at_call 20; refine (HCC.out w2 HQ.out HQ.out).mono ?_; rintro e w3 ⟨rfl, hb3⟩; have HB3 := Lib.hid hb3; clear hb3)
            go_roundw
            case rel =>
              refine ⟨k + 1, by omega, by simp, Lib.hid (HB.out.trans ((HQ.out.trans (HB3.out.mono HQ.out.size)).mono HB.out.size)), Lib.hid fun j hj => ?_⟩
              by_cases e : j = k
              · subst e
                have h1 := HX.out.1
                have h2 := HX.out.2
                simp only [It.l] at h1 h2
                rw [h1, h2, sameB_true.1 HR.out]
              · exact HE.out j (by omega)
            case measure => simp [intOf]; omega
        · obtain rfl : k = m := by omega
          go_wp2_with fail
          go_ret
          have hll : l1 = l2 := List.ext_getElem? fun j => by
            by_cases hj : j < k
            · exact HE.out j hj
            · have h1 := HM.out
              have h2 := HL.out
              rw [List.getElem?_eq_none (by omega), List.getElem?_eq_none (by omega)]
          refine ⟨?_, by rw [HGG.out]; exact HS.out.trans (HB.out.mono (by have := HG.out; omega))⟩
          have hne : sameB (It.mk k1 n1 s1 l1) (It.mk k1 n1 s1 l2) = true := by rw [hll, sameB_refl]
          rw [hne]
          rfl
    · have hfe := hfe hf
      have HF := Lib.hid hf
      have HS := Lib.hid S
      clear hf S
      go_enter Try.func20, Try.ntmps20
      simp only [vI, It.k, It.n, It.s, It.l]
      go_wp2_with fail
      all_goals first
        | (go_ret; exact ⟨by rw [hfe]; rfl, HS.out⟩)
        | (exfalso; exact HF.out ⟨by assumption, by assumption, text_eq (by assumption), by simp at *; omega⟩)
end Go.Proofs.Ytchhbcmkhbfpoaa

/- The document's over: deeper, wider, longer texts than are looked at. -/
namespace Go.Proofs.Ytchhbcmkhbfpoaa
open Go.RowKit

def overB : Nat → It → Bool
  | 0, _ => true
  | d + 1, t => decide (200 < t.l.length) || decide (300 < t.s.size) || t.l.any (overB d)
theorem any_none {l : List It} {p : It → Bool} (h : ∀ (j : Nat) (X : It), l[j]? = some X → p X = false) : l.any p = false := by
  rw [List.any_eq_false]
  intro x hx
  obtain ⟨j, hj⟩ := List.mem_iff_getElem?.1 hx
  simp [h j x hj]

end Go.Proofs.Ytchhbcmkhbfpoaa

/- Items by value on slices of the call's own. -/
namespace Go.Proofs.Ytchhbcmkhbfpoaa
open Go.RowKit

/-- An item's items lie in memory, all below block n. -/
structure AtB (w : World) (n : Nat) (t : It) (A : Option Addr) (cap : Nat) : Prop where
  le : t.l.length ≤ cap
  nil : A = none → cap = 0
  at_ : AtL w (· < n) t.l A
def ic (t : It) (A : Option Addr) (cap : Nat) : List Value := [.int .i64 t.k, .int .u64 t.n, .string t.s, .slice A t.l.length cap]
theorem ic_one (t : It) (A : Option Addr) (cap : Nat) : ∀ u ∈ ic t A cap, u.oneCell' = true := by
  intro u hu
  simp only [ic, List.mem_cons, List.not_mem_nil, or_false] at hu
  rcases hu with rfl | rfl | rfl | rfl <;> rfl
/-- The cells of items, one behind the other. -/
def Lay (w : World) (n : Nat) : List It → List Value → Prop
  | [], cs => cs = []
  | t :: r, cs => ∃ A cap cs', cs = ic t A cap ++ cs' ∧ AtB w n t A cap ∧ Lay w n r cs'
/-- A slice of the call's own that reads as items. -/
def OwnI (w : World) (n B : Nat) (v : Value) (its : List It) : Prop := ∃ cs, w.ownsRow B 56 4 v its.length cs ∧ Lay w n its cs
section
variable {w w' : World} {n n' B g cap : Nat} {t : It} {A : Option Addr} {v : Value} {its xs : List It} {cs cs' : List Value}
theorem AtB.toV (h : AtB w n t A cap) : AtV w t A cap := ⟨h.le, h.nil, h.at_.more fun _ _ => trivial⟩
theorem AtB.keep (h : AtB w n t A cap) (hb : Below n w w') : AtB w' n t A cap := ⟨h.le, h.nil, AtL.keep (fun b hlt _ => hb.block b hlt) (fun _ h => h) _ _ h.at_⟩
theorem AtB.more (h : AtB w n t A cap) (hn : n ≤ n') : AtB w n' t A cap := ⟨h.le, h.nil, h.at_.more fun _ h => Nat.lt_of_lt_of_le h hn⟩
theorem AtV.toB (h : AtV w t A cap) : AtB w w.heap.size t A cap := by
  refine ⟨h.le, h.nil, ?_⟩
  have : ∀ (l : List It) (A : Option Addr), AtL w (fun _ => True) l A → AtL w (· < w.heap.size) l A := by
    suffices H : ∀ (c : Nat) (l : List It) (A : Option Addr), countL l ≤ c → AtL w (fun _ => True) l A → AtL w (· < w.heap.size) l A from fun l A => H _ l A (Nat.le_refl _)
    intro c
    induction c with
    | zero =>
      intro l A hc h
      cases l with
      | nil => exact AtL.nil _
      | cons t r => rw [countL, It.count_eq] at hc; omega
    | succ c ih =>
      intro l A hc h
      cases l with
      | nil => exact AtL.nil _
      | cons t r =>
        rw [countL, It.count_eq] at hc
        obtain ⟨b, o, rfl, _, hb, h1, h2⟩ := h.cons
        obtain ⟨A', cap', c0, c1, c2, c3, g1, g2, g3⟩ := h1.parts
        exact AtL.mk hb hb (At1.mk A' cap' c0 c1 c2 c3 g1 g2 (ih _ _ (by omega) g3)) (ih _ _ (by omega) h2)
  exact this _ _ h.at_
/-- Item number i: its cells, and what stands behind them. -/
theorem AtB.item (h : AtB w n t A cap) {i : Nat} (hi : i < t.l.length) : ∃ b o X A' cap', A = some ⟨b, o, none⟩ ∧ b < n ∧ b < w.heap.size ∧ t.l[i]? = some X ∧ X ∈ t.l ∧
    w.cell? ⟨b, o + i * 4, none⟩ = some (.int .i64 X.k) ∧ w.cell? ⟨b, o + i * 4 + 1, none⟩ = some (.int .u64 X.n) ∧ w.cell? ⟨b, o + i * 4 + 2, none⟩ = some (.string X.s) ∧
    w.cell? ⟨b, o + i * 4 + 3, none⟩ = some (.slice A' X.l.length cap') ∧ AtB w n X A' cap' := by
  obtain ⟨b, o, rfl, hn, hb, h1, _⟩ := h.at_.get hi
  rw [Nat.mul_comm 4 i] at h1
  obtain ⟨A', cap', c0, c1, c2, c3, g1, g2, g3⟩ := h1.parts
  exact ⟨b, o, t.l[i], A', cap', rfl, hn, hb, List.getElem?_eq_getElem hi, List.getElem_mem hi, c0, c1, c2, c3, g1, g2, g3⟩
theorem Lay.one (h : AtB w n t A cap) : Lay w n [t] (ic t A cap) := ⟨A, cap, [], by simp, h, rfl⟩
theorem Lay.append : ∀ {its : List It} {cs : List Value}, Lay w n its cs → Lay w n xs cs' → Lay w n (its ++ xs) (cs ++ cs')
  | [], cs, h, k => by cases (show cs = [] from h); exact k
  | t :: r, cs, ⟨A, cap, c, e, h1, h2⟩, k => ⟨A, cap, c ++ cs', by rw [e, List.append_assoc], h1, Lay.append h2 k⟩
theorem Lay.keep (hb : Below n w w') : ∀ {its : List It} {cs : List Value}, Lay w n its cs → Lay w' n its cs
  | [], _, h => h
  | _ :: _, _, ⟨A, cap, c, e, h1, h2⟩ => ⟨A, cap, c, e, h1.keep hb, Lay.keep hb h2⟩
theorem Lay.more (hn : n ≤ n') : ∀ {its : List It} {cs : List Value}, Lay w n its cs → Lay w n' its cs
  | [], _, h => h
  | _ :: _, _, ⟨A, cap, c, e, h1, h2⟩ => ⟨A, cap, c, e, h1.more hn, Lay.more hn h2⟩
theorem Lay.one_cell : ∀ {its : List It} {cs : List Value}, Lay w n its cs → ∀ u ∈ cs, u.oneCell' = true
  | [], cs, h, u, hu => by cases (show cs = [] from h); cases hu
  | t :: r, cs, ⟨A, cap, c, e, h1, h2⟩, u, hu => by
    subst e
    rcases List.mem_append.1 hu with h | h
    · exact ic_one _ _ _ u h
    · exact h2.one_cell u h
theorem Lay.length : ∀ {its : List It} {cs : List Value}, Lay w n its cs → cs.length = its.length * 4
  | [], cs, h => by cases (show cs = [] from h); rfl
  | t :: r, cs, ⟨A, cap, c, e, h1, h2⟩ => by
    subst e
    have := h2.length
    simp only [List.length_append, List.length_cons, ic, List.length_nil, this]
    omega
theorem Lay.get : ∀ {its : List It} {cs : List Value}, Lay w n its cs → ∀ {i : Nat} {X : It}, its[i]? = some X → ∃ A cap, cs[i * 4]? = some (.int .i64 X.k) ∧ cs[i * 4 + 1]? = some (.int .u64 X.n) ∧ cs[i * 4 + 2]? = some (.string X.s) ∧ cs[i * 4 + 3]? = some (.slice A X.l.length cap) ∧ AtB w n X A cap
  | [], _, _, i, X, hX => by cases hX
  | t :: r, cs, ⟨A, cap, c, e, h1, h2⟩, i, X, hX => by
    subst e
    cases i with
    | zero =>
      obtain rfl : t = X := by simpa using hX
      exact ⟨A, cap, rfl, rfl, rfl, rfl, h1⟩
    | succ i =>
      obtain ⟨A', cap', c0, c1, c2, c3, h⟩ := h2.get (i := i) (X := X) (by simpa using hX)
      refine ⟨A', cap', ?_, ?_, ?_, ?_, h⟩ <;> rw [show (i + 1) * 4 = i * 4 + 4 by omega]
      · exact c0
      · exact c1
      · exact c2
      · exact c3
theorem OwnI.keepB (h : OwnI w n B v its) (hb : Below w.heap.size w w') (hn : n ≤ w.heap.size) : OwnI w' n B v its :=
  let ⟨cs, h1, h2⟩ := h
  ⟨cs, oc_on h1 hb, h2.keep (hb.mono hn)⟩
theorem OwnI.less (h : OwnI w n B v its) {B' : Nat} (hB : B' ≤ B) : OwnI w n B' v its :=
  let ⟨cs, h1, h2⟩ := h
  ⟨cs, oc_less h1 hB, h2⟩
/-- While another slice is appended to. -/
theorem OwnI.kept (h : OwnI w n B v its) {row : Option Nat} (hg : w.grownBy w' row) (hb : Below n w w') (hne : v.ownBlock ≠ row ∨ v.ownBlock = none) : OwnI w' n B v its :=
  let ⟨cs, h1, h2⟩ := h
  ⟨cs, h1.kept hg hne.symm, h2.keep hb⟩
theorem OwnI.form (h : OwnI w n B v its) (hn : 0 < its.length) : ∃ g cap, v = .slice (some ⟨g, 0, none⟩) its.length cap ∧ its.length ≤ cap ∧ cap ≤ maxLen ∧ B ≤ g ∧ g < w.heap.size :=
  let ⟨_, h1, _⟩ := h
  oc_head h1 hn
theorem OwnI.item (h : OwnI w n B (.slice (some ⟨g, 0, none⟩) its.length cap) its) {i : Nat} (hi : i < its.length) : ∃ X A' cap', its[i]? = some X ∧ X ∈ its ∧
    w.cell? ⟨g, i * 4, none⟩ = some (.int .i64 X.k) ∧ w.cell? ⟨g, i * 4 + 1, none⟩ = some (.int .u64 X.n) ∧ w.cell? ⟨g, i * 4 + 2, none⟩ = some (.string X.s) ∧
    w.cell? ⟨g, i * 4 + 3, none⟩ = some (.slice A' X.l.length cap') ∧ AtB w n X A' cap' := by
  obtain ⟨cs, h1, h2⟩ := h
  have hX := List.getElem?_eq_getElem hi
  obtain ⟨A, c, c0, c1, c2, c3, h3⟩ := h2.get hX
  exact ⟨its[i], A, c, hX, List.getElem_mem hi, (oc_cell h1 (by omega)).1.trans c0, (oc_cell h1 (by omega)).1.trans c1, (oc_cell h1 (by omega)).1.trans c2, (oc_cell h1 (by omega)).1.trans c3, h3⟩
end
theorem infoItem : (Try.prog.info? 56).map (fun i => (i.zero, i.size, i.bytes)) = some (some (.agg #[.int .i64 0, .int .u64 0, .string ⟨#[]⟩, .slice none 0 0]), 4, 56) := by kernel_rfl
theorem sizeItem : (Try.prog.info? 56).map (·.size) = some 4 := by kernel_rfl
/-- append of items to a slice of the call's own. -/
theorem run_append_items {w : World} {n B : Nat} {ty : TypeId} {v v2 : Value} {its xs : List It} {B2 : Nat} (hown : OwnI w n B v its) (h2 : OwnI w n B2 v2 xs) (hx : 0 < xs.length) (hsz : its.length + xs.length ≤ 1099511627776) (hB : B ≤ w.heap.size) (hn : n ≤ B) :
    ∃ v' w', (Builtin.append_ #[54, 54] ty #[v, v2]).run Try.prog w = .ok v' w' ∧ OwnI w' n B v' (its ++ xs) ∧ Below B w w' ∧ w.grownBy w' v.ownBlock := by
  obtain ⟨cs, o1, l1⟩ := hown
  obtain ⟨cs2, o2, l2⟩ := h2
  obtain ⟨g2, cap2, rfl, _, _, _, _⟩ := oc_head o2 hx
  obtain ⟨v', w', r1, r2, r3, r4, _⟩ := oc_append (P := Try.prog) (t := 54) (ty := ty) (e := 56) (s := 4) (bytes := 56) (m := xs.length) (c := cap2) (news := cs2) (a := ⟨g2, 0, none⟩) (by kernel_rfl) infoItem rfl (by decide) (by decide) o1 l2.length
    (fun j u hj => by
      have hj' : j < xs.length * 4 := by
        rw [← l2.length]
        rcases Nat.lt_or_ge j cs2.length with h | h
        · exact h
        · rw [List.getElem?_eq_none h] at hj; cases hj
      rw [Addr.add_mid, Nat.zero_add]
      exact (oc_cell o2 hj').1.trans hj) l2.one_cell hsz hB
  exact ⟨v', w', r1, ⟨cs ++ cs2, by rw [List.length_append]; exact r2, (l1.append l2).keep (r3.mono hn)⟩, r3, r4⟩
end Go.Proofs.Ytchhbcmkhbfpoaa

/- The frame of every law's proof: what is left is that the call returns true and turns nothing that was there. -/
namespace Go.Proofs.Ytchhbcmkhbfpoaa
open Go.ChangeShapes Go.WideShapes Go.ChangeAt Go.RowKit

section
variable {H : Type} {enc : TypeId × Value → H} {P : Program} {W W' : World}
/-- Arguments read as they did where below the heap's old size nothing has turned. -/
theorem args_stay (hl : laidOutB P = true) (hb : Below W.heap.size W W') : ∀ (ts : List TypeId) (vs : List Value) (ds : List (DataW H)) (ps : List MemPlace),
    (ts.all fun t => P.readableRec t && decide (t < P.types.size)) = true → (∀ p ∈ ps, p.block < W.heap.size) →
    DataW.TrodAll enc P W 0 (fun _ => true) true ts vs ds ps → DataW.TrodAll enc P W' 0 (fun b => decide (b < W.heap.size)) true ts vs ds ps
  | [], vs, ds, ps, _, _, h => by
    obtain ⟨rfl, rfl, rfl⟩ := trodAll_nil h
    exact trodAll_mk0
  | t :: ts, vs, ds, ps, ht, hp, h => by
    obtain ⟨v, vs', d, ds', p, q, rfl, rfl, rfl, hd, hr⟩ := trodAll_cons h
    simp only [List.all_cons, Bool.and_eq_true, decide_eq_true_eq] at ht
    have ha := Below.trod hl ht.1.1 ht.1.2 hd hb (fun x hx => hp x (List.mem_append_left _ hx))
    exact trodAll_cons_mk ha (args_stay hl hb ts vs' ds' q (by simpa using ht.2) (fun x hx => hp x (List.mem_append_right _ hx)) hr)

/-- What a law's row asks behind the call. -/
theorem law_post {f : Func} {s : ChangeSpec} {args : Array Value} {ds gs : List (DataW H)} {before : List MemPlace} {tb : TypeId}
    (hl : laidOutB P = true) (ht : (f.params.toList.all fun t => P.readableRec t && decide (t < P.types.size)) = true) (hv : s.vars = [])
    (hr : f.resultTypes = #[tb]) (hu : P.underlying tb = some .bool)
    (hres : (s.fn H (ds ++ gs)).results = [.lit (.bool true)]) (hargs : (s.fn H (ds ++ gs)).args = ds) (hvars : (s.fn H (ds ++ gs)).vars = [])
    (hW : DataW.Whole enc P f.params.toList s.vars false W args.toList ds gs before) (hb : Below W.heap.size W W') :
    s.post enc P f false true false false W args (.bool true) W' := by
  have hlt := hW.lt
  have hW' := hW
  obtain ⟨p, q, hA, hV, hpq, _, _⟩ := hW
  rw [hv] at hV
  obtain ⟨rfl, rfl⟩ := trodVars_none hV
  rw [List.append_nil] at hpq
  subst hpq
  refine ⟨ds, [], before, [], before, [], hW', ?_, ?_, ?_, World.keptBut_mono (fun x hx => ⟨hx, Or.inr (Or.inl hx)⟩) (hb.frame (· ∈ before)), fun h => by cases h⟩
  · rw [hres, hr]
    exact trodAll_mk1 (shut_bool hu true)
  · rw [hargs]
    exact args_stay hl hb _ _ _ _ ht hlt hA
  · rw [hv, hvars]
    rfl

/-- A slice of integers that came in. -/
theorem open_nums {t e : TypeId} {k : IntKind} {b0 : Nat} {v : Value} {d : DataW H} {ps : List MemPlace} (ht : P.underlying t = some (.slice e)) (he : P.underlying e = some (.int k)) (hc : P.cellsOf e = 1)
    (hval : Value.okWide P W .any b0 t v) (hd : DataW.Trod enc P W 0 (fun _ => true) true t v d ps) (hlt : ∀ x ∈ ps, x.block < W.heap.size) :
    ∃ (A : Option Addr) (cap : Nat) (zs : List Int), v = .slice A zs.length cap ∧ zs.length ≤ 9223372036854775807 ∧ Rd W W.heap.size k A zs ∧ ∀ n ∈ zs, (Lit.int k n).wf = true := by
  obtain ⟨a0, len, cap, rfl⟩ := okWide_slice ht hval
  obtain ⟨fuel, hf⟩ := hd
  rcases open_ints ht he hc hf with ⟨hcs, hx⟩ | ⟨a, len', cap', zs, hcs, _, hl, hm, hz, hx, hcell, hwz⟩
  · simp [Value.cells] at hcs
    obtain ⟨rfl, rfl, rfl⟩ := hcs
    exact ⟨none, 0, [], rfl, by decide, fun h => absurd h (by simp), by simp⟩
  · simp [Value.cells] at hcs
    obtain ⟨rfl, rfl, rfl⟩ := hcs
    simp only [Prod.mk.injEq] at hx
    obtain ⟨rfl, rfl⟩ := hx
    simp only [if_true] at hz
    unfold maxLen at hm
    have hlen : (zs.take len).length = len := by rw [List.length_take]; omega
    refine ⟨some a, cap, zs.take len, by rw [hlen], by rw [hlen]; omega, fun hpos => ?_, fun n hn => hwz n (List.mem_of_mem_take hn)⟩
    rw [hlen] at hpos
    have h0 := hcell 0 (by omega)
    obtain ⟨b, off, spot⟩ := a
    have hspot : spot = none := by simpa [Addr.add] using World.cell?_spot h0
    subst hspot
    refine ⟨b, off, rfl, ?_, fun i hi => ?_⟩
    · have := hlt (.cell b off) (MemPlace.mem_row.2 ⟨0, by omega, by simp⟩)
      exact this
    · rw [hlen] at hi
      rw [← add_plain, hcell i (by omega)]
      congr 2
      simp [List.getD_eq_getElem?_getD, hi]
/-- A slice of integers that came in; its capacity too. -/
theorem open_nums' {t e : TypeId} {k : IntKind} {b0 : Nat} {v : Value} {d : DataW H} {ps : List MemPlace} (ht : P.underlying t = some (.slice e)) (he : P.underlying e = some (.int k)) (hc : P.cellsOf e = 1)
    (hval : Value.okWide P W .any b0 t v) (hd : DataW.Trod enc P W 0 (fun _ => true) true t v d ps) (hlt : ∀ x ∈ ps, x.block < W.heap.size) :
    ∃ (A : Option Addr) (cap : Nat) (zs : List Int), v = .slice A zs.length cap ∧ zs.length ≤ 9223372036854775807 ∧ zs.length ≤ cap ∧ (A = none → cap = 0) ∧ Rd W W.heap.size k A zs ∧ ∀ n ∈ zs, (Lit.int k n).wf = true := by
  obtain ⟨a0, len, cap, rfl⟩ := okWide_slice ht hval
  obtain ⟨fuel, hf⟩ := hd
  rcases open_ints ht he hc hf with ⟨hcs, hx⟩ | ⟨a, len', cap', zs, hcs, _, hl, hm, hz, hx, hcell, hwz⟩
  · simp [Value.cells] at hcs
    obtain ⟨rfl, rfl, rfl⟩ := hcs
    exact ⟨none, 0, [], rfl, by decide, by decide, fun _ => rfl, fun h => absurd h (by simp), by simp⟩
  · simp [Value.cells] at hcs
    obtain ⟨rfl, rfl, rfl⟩ := hcs
    simp only [Prod.mk.injEq] at hx
    obtain ⟨rfl, rfl⟩ := hx
    simp only [if_true] at hz
    unfold maxLen at hm
    have hlen : (zs.take len).length = len := by rw [List.length_take]; omega
    refine ⟨some a, cap, zs.take len, by rw [hlen], by rw [hlen]; omega, by rw [hlen]; exact hl, fun h => (by cases h), fun hpos => ?_, fun n hn => hwz n (List.mem_of_mem_take hn)⟩
    rw [hlen] at hpos
    have h0 := hcell 0 (by omega)
    obtain ⟨b, off, spot⟩ := a
    have hspot : spot = none := by simpa [Addr.add] using World.cell?_spot h0
    subst hspot
    refine ⟨b, off, rfl, ?_, fun i hi => ?_⟩
    · have := hlt (.cell b off) (MemPlace.mem_row.2 ⟨0, by omega, by simp⟩)
      exact this
    · rw [hlen] at hi
      rw [← add_plain, hcell i (by omega)]
      congr 2
      simp [List.getD_eq_getElem?_getD, hi]
end
end Go.Proofs.Ytchhbcmkhbfpoaa
