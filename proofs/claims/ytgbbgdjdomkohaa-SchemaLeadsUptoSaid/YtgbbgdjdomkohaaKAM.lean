/- Two nodes held against each other: the program's, the document's. -/
import Derived.Test.YtgbbgdjdomkohaaKAL
namespace Go.Proofs.Ytgbbgdjdomkohaa
open Go.RowKit

/-- Two nodes boxed, one behind the other. -/
theorem nblk2 (w : World) (t : TypeId) (a b : Array Value) : ∃ w1, (w.alloc (.cells a t)).alloc (.cells b t) = w1 ∧ Blk w1 w.heap.size t a ∧ Blk w1 (w.heap.size + 1) t b ∧ Below w.heap.size w w1 := iblk2 w t a b
theorem sameN_parts (x y : Nd) : sameN x y = (decide (x.k = y.k) && decide (x.lo = y.lo) && decide (x.hi = y.hi) && sameB x.v y.v && sameL x.l y.l && sameL x.f y.f) := by
  refine sameN_of ?_
  simp only [Bool.and_eq_true, decide_eq_true_eq, sameB_true, sameL_true, Nd.eq_iff, and_assoc]

set_option maxRecDepth 100000 in
set_option maxHeartbeats 4000000 in
theorem sch_sameNode (x y : Nd) (p q : Pl) (n : Nat) (w : World) (hn : n ≤ w.heap.size) (hx : NdB w n x p) (hy : NdB w n y q) (hc : x.v.count ≤ 1099511627775) (hl : x.l.length ≤ 1099511627776) (hf : x.f.length ≤ 1099511627776) :
    Calls Try.prog 21 #[vN x p, vN y q] w fun e w' => e = .returned (.bool (sameN x y)) ∧ Below w.heap.size w w' := by
  obtain ⟨w1, hw1, b1, b2, S⟩ := nblk2 w 43 (nc x p) (nc y q)
  have C1 := fun W (hW : Below w.heap.size w W) => item_Same x.v y.v p.Av q.Av p.cv q.cv n W hc (Nat.le_trans hn hW.size) (hx.v.keep (hW.mono hn)) (hy.v.keep (hW.mono hn))
  have C2 := fun W (hW : Below w.heap.size w W) => eq_ints x.l y.l p.Al q.Al p.cl q.cl n W (Nat.le_trans hn hW.size) (hx.l.below (hW.mono hn)) (hy.l.below (hW.mono hn)) hl
  have C3 := fun W (hW : Below w.heap.size w W) => eq_fields x.f y.f p.Af q.Af p.cf q.cf n W (Nat.le_trans hn hW.size) (hx.f.keep (hW.mono hn)) (hy.f.keep (hW.mono hn)) hf
  rw [sameN_parts]
  generalize sameB x.v y.v = r1 at *
  generalize sameL x.l y.l = r2 at *
  generalize sameL x.f y.f = r3 at *
  have HC1 := Lib.hid C1
  have HC2 := Lib.hid C2
  have HC3 := Lib.hid C3
  have HS := Lib.hid S
  have hcl : ∀ W, Below w1.heap.size w1 W → (W.cell? ⟨w.heap.size, 7, none⟩ = some (.slice p.Al x.l.length p.cl) ∧ W.cell? ⟨w.heap.size, 8, none⟩ = some (.slice p.Af x.f.length p.cf)) ∧ W.cell? ⟨w.heap.size + 1, 7, none⟩ = some (.slice q.Al y.l.length q.cl) ∧ W.cell? ⟨w.heap.size + 1, 8, none⟩ = some (.slice q.Af y.f.length q.cf) := fun W hb =>
    ⟨⟨by rw [(b1.on hb).cell]; rfl, by rw [(b1.on hb).cell]; rfl⟩, by rw [(b2.on hb).cell]; rfl, by rw [(b2.on hb).cell]; rfl⟩
  have HCL := Lib.hid hcl
  unfold nc at b1 b2 hw1
  obtain ⟨p0, p1, p2, p3, p4, p5, p6, p7, p8⟩ := nblk b1
  obtain ⟨q0, q1, q2, q3, q4, q5, q6, q7, q8⟩ := nblk b2
  clear C1 C2 C3 S b1 b2 hcl hx hy hn hc hl hf
  simp only [vN, vI] at HC1 ⊢
  go_enter Try.func21, Try.ntmps21
  cases r1 <;> cases r2 <;> cases r3 <;>
  · go_wp2_with (first
      | (go_at_call 31; refine (HC1.out _ HS.out).mono ?_; rintro e w2 ⟨rfl, hb2⟩; obtain ⟨⟨a7, a8⟩, c7, c8⟩ := HCL.out w2 hb2; have HB2 := Lib.hid hb2; clear hb2)
      | (go_at_call 32; refine (HC2.out _ (HS.out.trans (HB2.out.mono HS.out.size))).mono ?_; rintro e w3 ⟨rfl, hb3⟩; have HB3 := Lib.hid (HB2.out.trans (hb3.mono HB2.out.size)); obtain ⟨⟨f7, f8⟩, g7, g8⟩ := HCL.out w3 HB3.out; clear hb3)
      | (go_at_call 33; refine (HC3.out _ (HS.out.trans (HB3.out.mono HS.out.size))).mono ?_; rintro e w4 ⟨rfl, hb4⟩; have HB4 := Lib.hid (HB3.out.trans (hb4.mono HB3.out.size)); clear hb4))
    all_goals go_ret
    all_goals first
      | exact ⟨by simp [*], HS.out.trans (HB4.out.mono HS.out.size)⟩
      | exact ⟨by simp [*], HS.out.trans (HB3.out.mono HS.out.size)⟩
      | exact ⟨by simp [*], HS.out.trans (HB2.out.mono HS.out.size)⟩
      | exact ⟨by simp [*], HS.out⟩

/-- One round of a loop that holds two lists against each other: what lies at place k. -/
structure Two {α : Type} (xs ys : List α) (m k : Nat) : Prop where
  lx : xs.length = m
  ly : ys.length = m
  eq : ∀ j, j < k → xs[j]? = ys[j]?
theorem Two.all {α : Type} {xs ys : List α} {m : Nat} (h : Two xs ys m m) : xs = ys := list_eq_upto (h.lx.trans h.ly.symm) (by rw [h.lx]; exact h.eq)
theorem Two.next {α : Type} {xs ys : List α} {m k : Nat} {x y : α} (h : Two xs ys m k) (hx : xs[k]? = some x) (hy : ys[k]? = some y) (e : x = y) : Two xs ys m (k + 1) := ⟨h.lx, h.ly, fun j hj => by
  by_cases e' : j = k
  · subst e'; rw [hx, hy, e]
  · exact h.eq j (by omega)⟩
theorem Two.ne {α : Type} {xs ys : List α} {k : Nat} {x y : α} (hx : xs[k]? = some x) (hy : ys[k]? = some y) (e : x ≠ y) : xs ≠ ys := list_ne_at (k := k) (by rw [hx, hy]; exact fun h => e (by injection h))

set_option maxRecDepth 100000 in
set_option maxHeartbeats 8000000 in
theorem ref_SameNode (x y : Nd) (p q : Pl) (n : Nat) (w : World) (hn : n ≤ w.heap.size) (hx : NdB w n x p) (hy : NdB w n y q) (hc : x.v.count ≤ 1099511627775) (hl : x.l.length ≤ 1099511627776) (hf : x.f.length ≤ 1099511627776) :
    Calls Try.prog 22 #[vN x p, vN y q] w fun e w' => e = .returned (.bool (sameN x y)) ∧ Below w.heap.size w w' := by
  obtain ⟨w1, hw1, b1, b2, S⟩ := nblk2 w 43 (nc x p) (nc y q)
  have C1 := fun W (hW : Below w.heap.size w W) => ref_Same x.v.count x.v y.v p.Av q.Av p.cv q.cv W (Nat.le_refl _) (by omega) (hx.v.keep (hW.mono hn)).toV (hy.v.keep (hW.mono hn)).toV
  have HXL : Hid (∀ W, Below w.heap.size w W → Rd W n .i64 p.Al x.l ∧ Rd W n .i64 q.Al y.l) := Lib.hid fun W hW => ⟨hx.l.below (hW.mono hn), hy.l.below (hW.mono hn)⟩
  have HXF : Hid (∀ W, Below w.heap.size w W → RdF W n p.Af x.f ∧ RdF W n q.Af y.f) := Lib.hid fun W hW => ⟨hx.f.keep (hW.mono hn), hy.f.keep (hW.mono hn)⟩
  have HS := Lib.hid S
  have hcl : ∀ W, Below w1.heap.size w1 W → (W.cell? ⟨w.heap.size, 7, none⟩ = some (.slice p.Al x.l.length p.cl) ∧ W.cell? ⟨w.heap.size, 8, none⟩ = some (.slice p.Af x.f.length p.cf)) ∧ W.cell? ⟨w.heap.size + 1, 7, none⟩ = some (.slice q.Al y.l.length q.cl) ∧ W.cell? ⟨w.heap.size + 1, 8, none⟩ = some (.slice q.Af y.f.length q.cf) := fun W hb =>
    ⟨⟨by rw [(b1.on hb).cell]; rfl, by rw [(b1.on hb).cell]; rfl⟩, by rw [(b2.on hb).cell]; rfl, by rw [(b2.on hb).cell]; rfl⟩
  unfold nc at b1 b2 hw1
  obtain ⟨p0, p1, p2, p3, p4, p5, p6, p7, p8⟩ := nblk b1
  obtain ⟨q0, q1, q2, q3, q4, q5, q6, q7, q8⟩ := nblk b2
  clear S b1 b2 hx hy hc
  obtain ⟨r1, hr1⟩ : ∃ r1, sameB x.v y.v = r1 := ⟨_, rfl⟩
  rw [hr1] at C1
  have HC1 := Lib.hid C1
  clear C1
  simp only [vN, vI] at HC1 ⊢
  by_cases hall : x.k = y.k ∧ x.lo = y.lo ∧ x.hi = y.hi ∧ r1 = true ∧ x.l.length = y.l.length ∧ x.f.length = y.f.length
  · obtain ⟨ek, elo, ehi, rfl, el, ef⟩ := hall
    have HEQ : Hid (x.k = y.k ∧ x.lo = y.lo ∧ x.hi = y.hi ∧ x.v = y.v) := Lib.hid ⟨ek, elo, ehi, sameB_true.1 hr1⟩
    have HL : Hid (sameN x y = true ↔ x.l = y.l ∧ x.f = y.f) := Lib.hid (by rw [sameN_true, Nd.eq_iff]; exact ⟨fun h => h.2.2.2.2, fun h => ⟨ek, elo, ehi, sameB_true.1 hr1, h⟩⟩)
    rw [← ek] at q0 hw1
    rw [← elo] at q1 hw1
    rw [← ehi] at q2 hw1
    rw [← el] at q7 hcl hw1
    rw [← ef] at q8 hcl hw1
    rw [← ek, ← elo, ← ehi, ← el, ← ef]
    have HTL : Hid (Two x.l y.l x.l.length 0) := Lib.hid ⟨rfl, el.symm, fun j hj => absurd hj (by omega)⟩
    have HTF : Hid (Two x.f y.f x.f.length 0) := Lib.hid ⟨rfl, ef.symm, fun j hj => absurd hj (by omega)⟩
    clear hr1 ek elo ehi el ef HEQ
    have HCL := Lib.hid hcl
    generalize hmm : x.l.length = m at *
    generalize hff : x.f.length = z at *
    clear hcl hmm hff
    generalize sameN x y = res at *
    go_enter Try.func22, Try.ntmps22
    go_wp2_with (first
        | (go_at_call 34; refine (HC1.out _ HS.out).mono ?_; rintro e w2 ⟨rfl, hb2⟩; obtain ⟨⟨a7, a8⟩, c7, c8⟩ := HCL.out w2 hb2; have HB2 := Lib.hid hb2; clear hb2))
    clear p0 p1 p2 p3 p4 p5 p6 p7 p8 q0 q1 q2 q3 q4 q5 q6 q7 q8 a7 a8 c7 c8 hw1
    go_loopw [5] (fun i wr => ∃ k : Nat, k ≤ m ∧ i = .int .i64 (k : Int) ∧ Hid (Below w1.heap.size w1 wr) ∧ Hid (Two x.l y.l m k)) (fun i _ => m - (intOf i).toNat)
    case atStart => exact ⟨0, by omega, rfl, HB2, HTL⟩
    case round =>
      obtain ⟨k, hk, rfl, HB, HT⟩ := hrel
      obtain ⟨⟨a7, a8⟩, c7, c8⟩ := HCL.out wr HB.out
      by_cases hlt : k < m
      · obtain ⟨b1, o1, s, e1, -, X, d1⟩ := (HXL.out wr (HS.out.trans (HB.out.mono HS.out.size))).1.get' (i := k) (by rw [HT.out.lx]; exact hlt)
        obtain ⟨b2, o2, t, e2, -, Y, d2⟩ := (HXL.out wr (HS.out.trans (HB.out.mono HS.out.size))).2.get' (i := k) (by rw [HT.out.ly]; exact hlt)
        have HX := Lib.hid X
        have HY := Lib.hid Y
        rw [e1] at a7
        rw [e2] at c7
        clear X Y e1 e2
        by_cases e : s = t
        · have HN := Lib.hid (HT.out.next HX.out HY.out e)
          subst e
          go_wp2_with fail
          go_quiet (fail)
          have HQ := Lib.hid (below_drewN (Below.refl wr.heap.size wr) nq)
          generalize wr.drewN nq = w3 at *
          go_wp2_with fail
          go_roundw
          case rel => exact ⟨k + 1, by omega, by simp, Lib.hid (HB.out.trans (HQ.out.mono HB.out.size)), HN⟩
          case measure => simp [intOf]; omega
        · have HF : Hid (res = false) := Lib.hid (by
            cases hres : res
            · rfl
            · exact absurd (HL.out.1 hres).1 (Two.ne HX.out HY.out e))
          have e1 : (s != t) = true := by simp [e]
          go_wp2_with fail
          go_quiet (fail)
          have HQ := Lib.hid (below_drewN (Below.refl wr.heap.size wr) nq)
          generalize wr.drewN nq = w3 at *
          go_wp2_with fail
          go_ret
          exact ⟨by rw [HF.out]; rfl, HS.out.trans ((HB.out.trans (HQ.out.mono HB.out.size)).mono HS.out.size)⟩
      · obtain rfl : k = m := by omega
        have HLL := Lib.hid HT.out.all
        clear HT
        go_wp2_with fail
        clear a7 a8 c7 c8
        go_loopw [6] (fun i wr => ∃ j : Nat, j ≤ z ∧ i = .int .i64 (j : Int) ∧ Hid (Below w1.heap.size w1 wr) ∧ Hid (Two x.f y.f z j)) (fun i _ => z - (intOf i).toNat)
        case atStart => exact ⟨0, by omega, rfl, HB, HTF⟩
        case round =>
          obtain ⟨j, hj, rfl, HB', HT⟩ := hrel
          obtain ⟨⟨a7, a8⟩, c7, c8⟩ := HCL.out _ HB'.out
          by_cases hlt : j < z
          · obtain ⟨b1, o1, s, e1, -, -, X, u1, u2, u3⟩ := (HXF.out _ (HS.out.trans (HB'.out.mono HS.out.size))).1.get (i := j) (by rw [HT.out.lx]; exact hlt)
            obtain ⟨b2, o2, t, e2, -, -, Y, v1, v2, v3⟩ := (HXF.out _ (HS.out.trans (HB'.out.mono HS.out.size))).2.get (i := j) (by rw [HT.out.ly]; exact hlt)
            have HX := Lib.hid X
            have HY := Lib.hid Y
            rw [e1] at a8
            rw [e2] at c8
            clear X Y e1 e2
            obtain ⟨k1, n1, q1⟩ := s
            obtain ⟨k2, n2, q2⟩ := t
            simp only at u1 u2 u3 v1 v2 v3
            by_cases e : k1 = k2 ∧ n1 = n2 ∧ q1 = q2
            · have HN := Lib.hid (HT.out.next HX.out HY.out (by obtain ⟨rfl, rfl, rfl⟩ := e; rfl))
              obtain ⟨rfl, rfl, rfl⟩ := e
              go_wp2_with fail
              go_quiet (fail)
              have HQ := Lib.hid (below_drewN (Below.refl wr.heap.size wr) nq)
              generalize wr.drewN nq = w3 at *
              go_wp2_with fail
              go_roundw
              case rel => exact ⟨j + 1, by omega, by simp, Lib.hid (HB'.out.trans (HQ.out.mono HB'.out.size)), HN⟩
              case measure => simp [intOf]; omega
            · have HF : Hid (res = false) := Lib.hid (by
                cases hres : res
                · rfl
                · exact absurd (HL.out.1 hres).2 (Two.ne HX.out HY.out (fun h => e (by injection h with h1 h2 h3; exact ⟨h1, h2, h3⟩))))
              obtain ⟨ek, en, eq⟩ | ⟨ek, en⟩ | ek : (k1 = k2 ∧ n1 = n2 ∧ ¬ q1 = q2) ∨ (k1 = k2 ∧ ¬ n1 = n2) ∨ ¬ k1 = k2 := by
                by_cases ek : k1 = k2 <;> by_cases en : n1 = n2 <;> by_cases eq : q1 = q2 <;> simp_all
              · subst ek en
                have e1 : (q1 == q2) = false := by simpa using eq
                clear e eq
                go_wp2_with fail
                go_quiet (fail)
                have HQ := Lib.hid (below_drewN (Below.refl wr.heap.size wr) nq)
                generalize wr.drewN nq = w3 at *
                go_wp2_with fail
                go_ret
                exact ⟨by rw [HF.out]; rfl, HS.out.trans ((HB'.out.trans (HQ.out.mono HB'.out.size)).mono HS.out.size)⟩
              · subst ek
                have e1 : (n1 == n2) = false := by simpa using en
                clear e en
                go_wp2_with fail
                go_quiet (fail)
                have HQ := Lib.hid (below_drewN (Below.refl wr.heap.size wr) nq)
                generalize wr.drewN nq = w3 at *
                go_wp2_with fail
                go_ret
                exact ⟨by rw [HF.out]; rfl, HS.out.trans ((HB'.out.trans (HQ.out.mono HB'.out.size)).mono HS.out.size)⟩
              · have e1 : (k1.toList == k2.toList) = false := beq_eq_false_iff_ne.2 fun h => ek (text_eq h)
                clear e ek
                go_wp2_with fail
                go_quiet (fail)
                have HQ := Lib.hid (below_drewN (Below.refl wr.heap.size wr) nq)
                generalize wr.drewN nq = w3 at *
                go_wp2_with fail
                go_ret
                exact ⟨by rw [HF.out]; rfl, HS.out.trans ((HB'.out.trans (HQ.out.mono HB'.out.size)).mono HS.out.size)⟩
          · obtain rfl : j = z := by omega
            have HF : Hid (res = true) := Lib.hid (HL.out.2 ⟨HLL.out, HT.out.all⟩)
            go_wp2_with fail
            go_ret
            exact ⟨by rw [HF.out]; rfl, HS.out.trans (HB'.out.mono HS.out.size)⟩
  · have HF : Hid (sameN x y = false) := Lib.hid (sameN_false.2 fun e => hall ⟨by rw [e], by rw [e], by rw [e], by rw [← hr1, e]; exact sameB_refl _, by rw [e], by rw [e]⟩)
    have HCL := Lib.hid hcl
    have HA := Lib.hid hall
    clear hr1 hcl hall
    go_enter Try.func22, Try.ntmps22
    cases r1 <;>
    · go_wp2_with (first
        | (go_at_call 34; refine (HC1.out _ HS.out).mono ?_; rintro e w2 ⟨rfl, hb2⟩; obtain ⟨⟨a7, a8⟩, c7, c8⟩ := HCL.out w2 hb2; have HB2 := Lib.hid hb2; clear hb2))
      all_goals first
        | (go_ret; exact ⟨by rw [HF.out]; rfl, HS.out⟩)
        | (go_ret; exact ⟨by rw [HF.out]; rfl, HS.out.trans (HB2.out.mono HS.out.size)⟩)
        | (exfalso; refine HA.out ⟨by assumption, by assumption, by assumption, by first | rfl | trivial, ?_, ?_⟩ <;> first | omega | (have h := ‹(_ != _) = false›; simp at h; omega))
end Go.Proofs.Ytgbbgdjdomkohaa
