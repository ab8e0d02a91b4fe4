/- The document's Same: two items in memory, whatever they share. -/
import Derived.Test.YtjelgoeamaejmaaGreatKAD
import Derived.Test.YtjelgoeamaejmaaGreatKAC
namespace Go.Proofs.YtjelgoeamaejmaaGreat
open Go.RowKit

/-- An item by value. -/
def vI (t : It) (A : Option Addr) (cap : Nat) : Value := .agg #[.int .i64 t.k, .int .u64 t.n, .string t.s, .slice A t.l.length cap]
/-- .. and its items in memory. -/
structure AtV (w : World) (t : It) (A : Option Addr) (cap : Nat) : Prop where
  le : t.l.length ≤ cap
  nil : A = none → cap = 0
  at_ : AtL w (fun _ => True) t.l A
theorem AtV.on {w w' : World} {t : It} {A : Option Addr} {cap : Nat} (h : AtV w t A cap) (hb : Below w.heap.size w w') : AtV w' t A cap := ⟨h.le, h.nil, h.at_.on hb⟩
/-- Item number i: its cells, and what stands behind them. -/
theorem AtL.item {w : World} {l : List It} {A : Option Addr} (h : AtL w (fun _ => True) l A) {i : Nat} (hi : i < l.length) : ∃ b o X A' cap', A = some ⟨b, o, none⟩ ∧ b < w.heap.size ∧ l[i]? = some X ∧ X ∈ l ∧
    w.cell? ⟨b, o + i * 4, none⟩ = some (.int .i64 X.k) ∧ w.cell? ⟨b, o + i * 4 + 1, none⟩ = some (.int .u64 X.n) ∧ w.cell? ⟨b, o + i * 4 + 2, none⟩ = some (.string X.s) ∧
    w.cell? ⟨b, o + i * 4 + 3, none⟩ = some (.slice A' X.l.length cap') ∧ AtV w X A' cap' := by
  obtain ⟨b, o, rfl, _, hb, h1, _⟩ := h.get hi
  rw [Nat.mul_comm 4 i] at h1
  obtain ⟨A', cap', c0, c1, c2, c3, g1, g2, g3⟩ := h1.parts
  exact ⟨b, o, l[i], A', cap', rfl, hb, List.getElem?_eq_getElem hi, List.getElem_mem hi, c0, c1, c2, c3, g1, g2, g3⟩

theorem text_eq {a b : ByteArray} (h : a.toList = b.toList) : a = b := by
  rw [ByteArray.toList_eq, ByteArray.toList_eq] at h
  exact ByteArray.ext (Array.toList_inj.1 h)
theorem sameB_fields {x y : It} (h : ¬ (x.k = y.k ∧ x.n = y.n ∧ x.s = y.s ∧ x.l.length = y.l.length)) : sameB x y = false := by
  cases hb : sameB x y
  · rfl
  · rw [sameB_true] at hb
    subst hb
    simp at h


set_option maxRecDepth 100000 in
set_option maxHeartbeats 2000000 in
theorem ref_Same : ∀ (c : Nat) (x y : It) (A1 A2 : Option Addr) (c1 c2 : Nat) (w : World), x.count ≤ c → x.count ≤ 1099511627776 → AtV w x A1 c1 → AtV w y A2 c2 →
    Calls Tryz.prog 29 #[vI x A1 c1, vI y A2 c2] w fun e w' => e = .returned (.bool (sameB x y)) ∧ Below w.heap.size w w' := by
  intro c
  induction c with
  | zero => intro x y A1 A2 c1 c2 w h; rw [It.count_eq] at h; omega
  | succ c ih =>
    intro x y A1 A2 c1 c2 w hc hbig h1 h2
    simp only [vI] at ih
    have IH := Lib.hid ih
    clear ih
    have hfe := @sameB_fields x y
    obtain ⟨k1, n1, s1, l1⟩ := x
    obtain ⟨k2, n2, s2, l2⟩ := y
    obtain ⟨w1, hw1, b1, b2, S⟩ := iblk2 w 28 #[.int .i64 k1, .int .u64 n1, .string s1, .slice A1 l1.length c1] #[.int .i64 k2, .int .u64 n2, .string s2, .slice A2 l2.length c2]
    obtain ⟨p0, p1, p2, p3, -⟩ := iblk b1
    obtain ⟨q0, q1, q2, q3, -⟩ := iblk b2
    by_cases hf : k1 = k2 ∧ n1 = n2 ∧ s1 = s2 ∧ l1.length = l2.length
    · obtain ⟨rfl, rfl, rfl, hl⟩ := hf
      have H1 := Lib.hid (h1.on S)
      have H2 := Lib.hid (h2.on S)
      have HS := Lib.hid S
      have HC : RowKit.Hid (∀ X, X ∈ l1 → X.count ≤ c ∧ X.count ≤ 1099511627776) := Lib.hid fun X hX => by
        have := count_le_of_mem hX
        simp only [It.count] at hc hbig; omega
      have hml : (l1.length : Int) < 1099511627776 := by
        have := length_le_countL l1
        simp only [It.count] at hbig; omega
      clear hfe h1 h2 S hc hbig b1 b2
      go_enter Tryz.func29, Tryz.ntmps29
      simp only [vI, It.k, It.n, It.s, It.l]
      rw [← hl] at hw1 q3 ⊢
      obtain ⟨m, hm⟩ : ∃ m, l1.length = m := ⟨_, rfl⟩
      rw [hm] at hw1 p3 q3 hml ⊢
      have HL := Lib.hid hl
      have HM := Lib.hid hm
      clear hl hm
      go_wp2_with fail
      clear hw1
      have hgs : w.heap.size + 1 < w1.heap.size := block_lt_of_cell q0
      have HG := Lib.hid hgs
      generalize hgg : w.heap.size = g at *
      have HGG := Lib.hid hgg
      clear hgg
      go_loopw [5] (fun i wr => ∃ k : Nat, k ≤ m ∧ i = .int .i64 (k : Int) ∧ RowKit.Hid (Below w1.heap.size w1 wr) ∧ RowKit.Hid (∀ j, j < k → l1[j]? = l2[j]?)) (fun i _ => m - (intOf i).toNat)
      case atStart => exact ⟨0, by omega, rfl, Lib.hid (Below.refl _ _), Lib.hid fun j hj => absurd hj (by omega)⟩
      case round =>
        obtain ⟨k, hk, rfl, HB, HE⟩ := hrel
        have p3' := (HB.out.cell (p := ⟨g, 3, none⟩) (by have := HG.out; show g < _; omega)).trans p3
        have q3' := (HB.out.cell (p := ⟨g + 1, 3, none⟩) HG.out).trans q3
        by_cases hlt : k < m
        · obtain ⟨i1, o1, X, A1', c1', rfl, hb1, hX, mX, x0, x1, x2, x3, hx⟩ := (H1.out.on HB.out).at_.item (i := k) (by show k < l1.length; rw [HM.out]; exact hlt)
          obtain ⟨i2, o2, Y, A2', c2', rfl, hb2, hY, mY, y0, y1, y2, y3, hy⟩ := (H2.out.on HB.out).at_.item (i := k) (by show k < l2.length; rw [← HL.out, HM.out]; exact hlt)
          have HX := Lib.hid (And.intro hX hY)
          have hcc := fun W h1 h2 => IH.out X Y A1' A2' c1' c2' W (HC.out X mX).1 (HC.out X mX).2 (hx.on h1) (hy.on h2)
          obtain ⟨r, hr⟩ : ∃ r, sameB X Y = r := ⟨_, rfl⟩
          rw [hr] at hcc
          have HR := Lib.hid hr
          have HCC := Lib.hid hcc
          have HM' := Lib.hid (And.intro mX mY)
          clear hx hy hX hY hcc mX mY hr
          go_wp2_with fail
          refine wp_region_quiet_tail 10 (by kernel_rfl) (by kernel_rfl) ?_
          simp only [List.take_succ_cons, List.take_zero, List.drop_succ_cons, List.drop_zero]
          repeat (quiet_step (fail))
          refine wpQuiet_nil ?_
          rintro _ ⟨q, rfl⟩
          have HQ := Lib.hid (below_drewN (Below.refl wr.heap.size wr) q)
          generalize wr.drewN q = w2 at *
          cases r
          · go_wp2_with (go_at_call 29; refine (HCC.out w2 HQ.out HQ.out).mono ?_; rintro e w3 ⟨rfl, hb3⟩; have HB3 := Lib.hid hb3; clear hb3)
            go_ret
            refine ⟨?_, by rw [HGG.out]; exact HS.out.trans ((HB.out.trans ((HQ.out.trans (HB3.out.mono HQ.out.size)).mono HB.out.size)).mono (by have := HG.out; omega))⟩
            have hne : sameB (It.mk k1 n1 s1 l1) (It.mk k1 n1 s1 l2) = false := by
              cases hq : sameB (It.mk k1 n1 s1 l1) (It.mk k1 n1 s1 l2)
              · rfl
              · exfalso
                have e1 := sameB_true.1 hq
                injection e1 with _ _ _ e1
                have h1 := HX.out.1
                have h2 := HX.out.2
                simp only [It.l] at h1 h2
                rw [e1, h2] at h1
                injection h1 with h1
                have := HR.out
                rw [h1, sameB_refl] at this
                cases this
            rw [hne]
            rfl
          · go_wp2_with (go_at_call 29; refine (HCC.out w2 HQ.out HQ.out).mono ?_; rintro e w3 ⟨rfl, hb3⟩; have HB3 := Lib.hid hb3; clear hb3)
            go_roundw
            case rel =>
              refine ⟨k + 1, by omega, by simp, Lib.hid (HB.out.trans ((HQ.out.trans (HB3.out.mono HQ.out.size)).mono HB.out.size)), Lib.hid fun j hj => ?_⟩
              by_cases e : j = k
              · subst e
                have h1 := HX.out.1
                have h2 := HX.out.2
                simp only [It.l] at h1 h2
                rw [h1, h2, sameB_true.1 HR.out]
              · exact HE.out j (by omega)
            case measure => simp [intOf]; omega
        · obtain rfl : k = m := by omega
          go_wp2_with fail
          go_ret
          have hll : l1 = l2 := List.ext_getElem? fun j => by
            by_cases hj : j < k
            · exact HE.out j hj
            · have h1 := HM.out
              have h2 := HL.out
              rw [List.getElem?_eq_none (by omega), List.getElem?_eq_none (by omega)]
          refine ⟨?_, by rw [HGG.out]; exact HS.out.trans (HB.out.mono (by have := HG.out; omega))⟩
          have hne : sameB (It.mk k1 n1 s1 l1) (It.mk k1 n1 s1 l2) = true := by rw [hll, sameB_refl]
          rw [hne]
          rfl
    · have hfe := hfe hf
      have HF := Lib.hid hf
      have HS := Lib.hid S
      clear hf S
      go_enter Tryz.func29, Tryz.ntmps29
      simp only [vI, It.k, It.n, It.s, It.l]
      go_wp2_with fail
      all_goals first
        | (go_ret; exact ⟨by rw [hfe]; rfl, HS.out⟩)
        | (exfalso; exact HF.out ⟨by assumption, by assumption, text_eq (by assumption), by simp at *; omega⟩)
end Go.Proofs.YtjelgoeamaejmaaGreat

/- The document's over: deeper, wider, longer texts than are looked at. -/
namespace Go.Proofs.YtjelgoeamaejmaaGreat
open Go.RowKit

def overB : Nat → It → Bool
  | 0, _ => true
  | d + 1, t => decide (200 < t.l.length) || decide (300 < t.s.size) || t.l.any (overB d)
theorem any_none {l : List It} {p : It → Bool} (h : ∀ (j : Nat) (X : It), l[j]? = some X → p X = false) : l.any p = false := by
  rw [List.any_eq_false]
  intro x hx
  obtain ⟨j, hj⟩ := List.mem_iff_getElem?.1 hx
  simp [h j x hj]

set_option maxRecDepth 100000 in
set_option maxHeartbeats 2000000 in
theorem ref_over : ∀ (d : Nat) (x : It) (A : Option Addr) (cap : Nat) (w : World), d ≤ 80 → x.count ≤ 1099511627776 → AtV w x A cap →
    Calls Tryz.prog 30 #[vI x A cap, .int .i64 (d : Int)] w fun e w' => e = .returned (.bool (overB d x)) ∧ Below w.heap.size w w' := by
  intro d
  induction d with
  | zero =>
    intro x A cap w _ _ _
    go_enter Tryz.func30, Tryz.ntmps30
    unfold vI
    go_wp2_with fail
    go_ret
    exact ⟨rfl, below_alloc w _⟩
  | succ d ih =>
    intro x A cap w hd hbig h
    simp only [vI] at ih
    have IH := Lib.hid ih
    clear ih
    have hdi : ((d + 1 : Nat) : Int) = (d : Int) + 1 := by omega
    have hd0 : (0 : Int) ≤ d := by omega
    have hd8 : (d : Int) < 80 := by omega
    have HD := Lib.hid (fun _ : Unit => (show d ≤ 80 by omega))
    rw [hdi]
    clear hdi hd
    obtain ⟨k, n, s, l⟩ := x
    have hml : (l.length : Int) < 1099511627776 := by
      have := length_le_countL l
      simp only [It.count] at hbig; omega
    by_cases hw : 200 < l.length ∨ 300 < s.size
    · have HF : RowKit.Hid (overB (d + 1) (It.mk k n s l) = true) := Lib.hid (by
        show (decide (200 < l.length) || decide (300 < s.size) || l.any (overB d)) = true
        rcases hw with h | h <;> simp [h])
      have HW := Lib.hid (fun _ : Unit => hw)
      clear hw hbig hml
      generalize hz : overB (d + 1) (It.mk k n s l) = z at *
      clear hz
      go_enter Tryz.func30, Tryz.ntmps30
      simp only [vI, It.k, It.n, It.s, It.l]
      go_wp2_with fail
      all_goals first
        | (go_ret; exact ⟨by rw [HF.out]; rfl, below_alloc w _⟩)
        | (exfalso; rcases HW.out () with h | h <;> omega)
    · obtain ⟨w1, hw1, b1, S⟩ := iblk1 w 28 #[.int .i64 k, .int .u64 n, .string s, .slice A l.length cap]
      obtain ⟨p0, p1, p2, p3, -⟩ := iblk b1
      have H1 := Lib.hid (h.on S)
      have HS := Lib.hid S
      have HC : RowKit.Hid (∀ X, X ∈ l → X.count ≤ 1099511627776) := Lib.hid fun X hX => by
        have := count_le_of_mem hX
        simp only [It.count] at hbig; omega
      have h2 : (l.length : Int) ≤ 200 := by omega
      have h3 : (s.size : Int) ≤ 300 := by omega
      have HF : RowKit.Hid (overB (d + 1) (It.mk k n s l) = l.any (overB d)) := Lib.hid (by
        have e1 : decide (200 < l.length) = false := by simp; omega
        have e2 : decide (300 < s.size) = false := by simp; omega
        show (decide (200 < l.length) || decide (300 < s.size) || l.any (overB d)) = _
        rw [e1, e2]
        rfl)
      clear h S hbig b1 hw hml
      go_enter Tryz.func30, Tryz.ntmps30
      simp only [vI, It.k, It.n, It.s, It.l]
      obtain ⟨m, hm⟩ : ∃ m, l.length = m := ⟨_, rfl⟩
      rw [hm] at hw1 p3 h2 ⊢
      have HM := Lib.hid hm
      clear hm
      have e0 : ((d : Int) + 1 == 0) = false := by simp; omega
      have e1 : decide ((200 : Int) < m) = false := by simp; omega
      have e2 : decide ((300 : Int) < s.size) = false := by simp; omega
      have hde : (d : Int) + 1 - 1 = d := by omega
      go_wp2_with fail
      clear hw1
      have HG := Lib.hid (block_lt_of_cell p0)
      generalize hgg : w.heap.size = g at *
      have HGG := Lib.hid hgg
      clear hgg
      go_loopw [5] (fun i wr => ∃ j : Nat, j ≤ m ∧ i = .int .i64 (j : Int) ∧ RowKit.Hid (Below w1.heap.size w1 wr) ∧ RowKit.Hid (∀ j' X, j' < j → l[j']? = some X → overB d X = false)) (fun i _ => m - (intOf i).toNat)
      case atStart => exact ⟨0, by omega, rfl, Lib.hid (Below.refl _ _), Lib.hid fun j X hj => absurd hj (by omega)⟩
      case round =>
        obtain ⟨j, hj, rfl, HB, HE⟩ := hrel
        have p3' := (HB.out.cell (p := ⟨g, 3, none⟩) HG.out).trans p3
        by_cases hlt : j < m
        · obtain ⟨i1, o1, X, A1', c1', rfl, hb1, hX, mX, x0, x1, x2, x3, hx⟩ := (H1.out.on HB.out).at_.item (i := j) (by show j < l.length; rw [HM.out]; exact hlt)
          have hcc := IH.out X A1' c1' wr (HD.out ()) (HC.out X mX) hx
          obtain ⟨r, hr⟩ : ∃ r, overB d X = r := ⟨_, rfl⟩
          rw [hr] at hcc
          have HX := Lib.hid (show l[j]? = some X from hX)
          have HR := Lib.hid hr
          have HCC := Lib.hid hcc
          have HMX := Lib.hid (show X ∈ l from mX)
          clear hx hX hcc mX hr
          cases r
          · go_wp2_with (go_at_call 30; refine HCC.out.mono ?_; rintro e w3 ⟨rfl, hb3⟩; have HB3 := Lib.hid hb3; clear hb3)
            go_roundw
            case rel =>
              refine ⟨j + 1, by omega, by simp, Lib.hid (HB.out.trans (HB3.out.mono HB.out.size)), Lib.hid fun j' X' hj' hX' => ?_⟩
              by_cases e : j' = j
              · subst e
                have h1 := HX.out
                rw [hX'] at h1
                injection h1 with h1
                rw [h1]
                exact HR.out
              · exact HE.out j' X' (by omega) hX'
            case measure => simp [intOf]; omega
          · go_wp2_with (go_at_call 30; refine HCC.out.mono ?_; rintro e w3 ⟨rfl, hb3⟩; have HB3 := Lib.hid hb3; clear hb3)
            go_ret
            refine ⟨?_, by rw [HGG.out]; exact HS.out.trans ((HB.out.trans (HB3.out.mono HB.out.size)).mono (by have := HG.out; omega))⟩
            rw [HF.out, List.any_eq_true.2 ⟨X, HMX.out, HR.out⟩]
            rfl
        · obtain rfl : j = m := by omega
          go_wp2_with fail
          go_ret
          refine ⟨?_, by rw [HGG.out]; exact HS.out.trans (HB.out.mono (by have := HG.out; omega))⟩
          rw [HF.out, any_none fun j' X hX => HE.out j' X (by
            have h1 := HM.out
            have h2 : j' < l.length := by
              rcases Nat.lt_or_ge j' l.length with h | h
              · exact h
              · rw [List.getElem?_eq_none h] at hX; cases hX
            omega) hX]
          rfl
end Go.Proofs.YtjelgoeamaejmaaGreat

/- A slice of the call's own at a known block: one of its numbers is read, is written. -/
namespace Go.Proofs.YtjelgoeamaejmaaGreat
open Go.RowKit

section
variable {w w' : World} {B g n cap : Nat} {k : IntKind} {e : TypeId} {zs : List Int}
theorem Own.at (h : Own w B k e (.slice (some ⟨g, 0, none⟩) n cap) zs) {j : Nat} (hj : j < zs.length) : w.cell? ⟨g, j, none⟩ = some (.int k (zs.getD j 0)) ∧ w.frozen? ⟨g, j, none⟩ = false := by
  obtain ⟨g', cap', hv, _, h1, h2, _⟩ := h.put hj 0
  injection hv with e1 e2 e3
  injection e1 with e1
  injection e1 with e1
  subst e1
  exact ⟨h1, h2⟩
theorem Own.set (h : Own w B k e (.slice (some ⟨g, 0, none⟩) n cap) zs) {j : Nat} (hj : j < zs.length) (x : Int) : Own (w.setCell ⟨g, j, none⟩ (.int k x)) B k e (.slice (some ⟨g, 0, none⟩) n cap) (zs.set j x) := by
  obtain ⟨g', cap', hv, _, _, _, h3, _⟩ := h.put hj x
  injection hv with e1 e2 e3
  injection e1 with e1
  injection e1 with e1
  subst e1
  exact h3
theorem Own.ge (h : Own w B k e (.slice (some ⟨g, 0, none⟩) n cap) zs) : B ≤ g := by
  obtain ⟨A, cap', hv, _, _, _, hb, _⟩ := h.form
  injection hv with e1 e2 e3
  obtain ⟨b, hp, hB⟩ := hb _ e1.symm
  injection hp with e1
  omega
theorem Own.lt (h : Own w B k e (.slice (some ⟨g, 0, none⟩) n cap) zs) (hn : 0 < zs.length) : g < w.heap.size := block_lt_of_cell (h.at hn).1
theorem Own.len (h : Own w B k e (.slice (some ⟨g, 0, none⟩) n cap) zs) : n = zs.length := by
  obtain ⟨A, cap', hv, _, _, _, _, _⟩ := h.form
  injection hv
/-- Its block. -/
theorem Own.head {v : Value} (h : Own w B k e v zs) (hn : 0 < zs.length) : ∃ g cap, v = .slice (some ⟨g, 0, none⟩) zs.length cap := by
  obtain ⟨g, cap, hv, _⟩ := h.put hn 0
  exact ⟨g, cap, hv⟩
end
end Go.Proofs.YtjelgoeamaejmaaGreat
