
/- The document's answer for package blake: how four numbers are mixed. -/
import Derived.Test.YtgcboodlneknpaaDoorBlakeQ
import Derived.Test.YtgcboodlneknpaaDoorQTail
import Derived.Test.YtgcboodlneknpaaDoorOwnAt
import Derived.Test.YtgcboodlneknpaaDoorMask
import Derived.StillTailTactics
namespace Go.Proofs.YtgcboodlneknpaaDoor
open Go.RowKit

/-- The sum as the document's answer reckons it. -/
theorem add6_eq (a b x : Int) : IntKind.u64.wrap (IntKind.u64.wrap (a + b) + x) = add6 a (add6 b x) := by
  unfold add6
  simp only [IntKind.wrap_u64]
  omega
theorem refTurn6 (p q n : Int) (k : Nat) (hk : (n % 64).toNat = k) (hp : 0 ≤ p ∧ p < 18446744073709551616) (hq : 0 ≤ q ∧ q < 18446744073709551616) (r : Int) (hr : turned 64 (xor6 p q) k = r) (w : World) :
    Calls Tryd.prog 20 #[.int .u64 (bits .xor .u64 p q), .int .i64 n] w fun e w' => e = .returned (.int .u64 r) ∧ ∃ d, w' = w.drewN d := by
  have hx := xor6_range hp hq
  subst hk hr
  refine (refRight64 (bits .xor .u64 p q) n hx.1 hx.2 w).mono ?_
  rintro e w' ⟨d, rfl, rfl⟩
  exact ⟨rfl, d, rfl⟩

/-- Four numbers of a slice of the call's own have turned, and nothing else. -/
structure Mx (w : World) (B gv cap a b c d : Nat) (vs : List Int) (va vb vc vd : Int) (w' : World) : Prop where
  own : ∃ zs, Own w' B .u64 30 (.slice (some ⟨gv, 0, none⟩) 16 cap) zs ∧ zs.length = 16 ∧ zs.getD a 0 = va ∧ zs.getD b 0 = vb ∧ zs.getD c 0 = vc ∧ zs.getD d 0 = vd ∧ ∀ i, i ≠ a → i ≠ b → i ≠ c → i ≠ d → zs.getD i 0 = vs.getD i 0
  only : Only gv w w'
theorem getD_setne (l : List Int) (i j : Nat) (u : Int) (h : i ≠ j) : (l.set i u).getD j 0 = l.getD j 0 := by
  simp only [List.getD_eq_getElem?_getD]
  rw [List.getElem?_set_ne h]
theorem getD_setsame (l : List Int) (i : Nat) (u : Int) (h : i < l.length) : (l.set i u).getD i 0 = u := by
  simp [List.getD_eq_getElem?_getD, h]
section
variable {w w' : World} {B gv cap a b c d : Nat} {vs : List Int} {va vb vc vd : Int}
theorem Mx.cells (h : Mx w B gv cap a b c d vs va vb vc vd w') (la : a < 16) (lb : b < 16) (lc : c < 16) (ld : d < 16) :
    (w'.cell? ⟨gv, a, none⟩ = some (.int .u64 va) ∧ w'.cell? ⟨gv, b, none⟩ = some (.int .u64 vb) ∧ w'.cell? ⟨gv, c, none⟩ = some (.int .u64 vc) ∧ w'.cell? ⟨gv, d, none⟩ = some (.int .u64 vd)) ∧
      w'.frozen? ⟨gv, a, none⟩ = false ∧ w'.frozen? ⟨gv, b, none⟩ = false ∧ w'.frozen? ⟨gv, c, none⟩ = false ∧ w'.frozen? ⟨gv, d, none⟩ = false := by
  obtain ⟨zs, ho, hl, rfl, rfl, rfl, rfl, _⟩ := h.own
  exact ⟨⟨(ho.at (by omega)).1, (ho.at (by omega)).1, (ho.at (by omega)).1, (ho.at (by omega)).1⟩, (ho.at (j := a) (by omega)).2, (ho.at (j := b) (by omega)).2, (ho.at (j := c) (by omega)).2, (ho.at (j := d) (by omega)).2⟩
theorem Mx.seta (h : Mx w B gv cap a b c d vs va vb vc vd w') (la : a < 16) (n1 : a ≠ b) (n2 : a ≠ c) (n3 : a ≠ d) (n : Nat) (x : Int) : Mx w B gv cap a b c d vs x vb vc vd ((w'.drewN n).setCell ⟨gv, a, none⟩ (.int .u64 x)) := by
  obtain ⟨zs, ho, hl, e1, e2, e3, e4, e5⟩ := h.own
  exact ⟨⟨zs.set a x, (ho.drewN n).set (by omega) x, by rw [List.length_set, hl], getD_setsame _ _ _ (by omega), by rw [getD_setne _ _ _ _ n1, e2], by rw [getD_setne _ _ _ _ n2, e3], by rw [getD_setne _ _ _ _ n3, e4], fun i h1 h2 h3 h4 => by rw [getD_setne _ _ _ _ (Ne.symm h1), e5 i h1 h2 h3 h4]⟩, (h.only.drewN n).put a _⟩
theorem Mx.setb (h : Mx w B gv cap a b c d vs va vb vc vd w') (lb : b < 16) (n1 : b ≠ a) (n2 : b ≠ c) (n3 : b ≠ d) (n : Nat) (x : Int) : Mx w B gv cap a b c d vs va x vc vd ((w'.drewN n).setCell ⟨gv, b, none⟩ (.int .u64 x)) := by
  obtain ⟨zs, ho, hl, e1, e2, e3, e4, e5⟩ := h.own
  exact ⟨⟨zs.set b x, (ho.drewN n).set (by omega) x, by rw [List.length_set, hl], by rw [getD_setne _ _ _ _ n1, e1], getD_setsame _ _ _ (by omega), by rw [getD_setne _ _ _ _ n2, e3], by rw [getD_setne _ _ _ _ n3, e4], fun i h1 h2 h3 h4 => by rw [getD_setne _ _ _ _ (Ne.symm h2), e5 i h1 h2 h3 h4]⟩, (h.only.drewN n).put b _⟩
theorem Mx.setc (h : Mx w B gv cap a b c d vs va vb vc vd w') (lc : c < 16) (n1 : c ≠ a) (n2 : c ≠ b) (n3 : c ≠ d) (n : Nat) (x : Int) : Mx w B gv cap a b c d vs va vb x vd ((w'.drewN n).setCell ⟨gv, c, none⟩ (.int .u64 x)) := by
  obtain ⟨zs, ho, hl, e1, e2, e3, e4, e5⟩ := h.own
  exact ⟨⟨zs.set c x, (ho.drewN n).set (by omega) x, by rw [List.length_set, hl], by rw [getD_setne _ _ _ _ n1, e1], by rw [getD_setne _ _ _ _ n2, e2], getD_setsame _ _ _ (by omega), by rw [getD_setne _ _ _ _ n3, e4], fun i h1 h2 h3 h4 => by rw [getD_setne _ _ _ _ (Ne.symm h3), e5 i h1 h2 h3 h4]⟩, (h.only.drewN n).put c _⟩
theorem Mx.setd (h : Mx w B gv cap a b c d vs va vb vc vd w') (ld : d < 16) (n1 : d ≠ a) (n2 : d ≠ b) (n3 : d ≠ c) (n : Nat) (x : Int) : Mx w B gv cap a b c d vs va vb vc x ((w'.drewN n).setCell ⟨gv, d, none⟩ (.int .u64 x)) := by
  obtain ⟨zs, ho, hl, e1, e2, e3, e4, e5⟩ := h.own
  exact ⟨⟨zs.set d x, (ho.drewN n).set (by omega) x, by rw [List.length_set, hl], by rw [getD_setne _ _ _ _ n1, e1], by rw [getD_setne _ _ _ _ n2, e2], by rw [getD_setne _ _ _ _ n3, e3], getD_setsame _ _ _ (by omega), fun i h1 h2 h3 h4 => by rw [getD_setne _ _ _ _ (Ne.symm h4), e5 i h1 h2 h3 h4]⟩, (h.only.drewN n).put d _⟩
theorem Mx.fin (h : Mx w B gv cap a b c d vs va vb vc vd w') (hl : vs.length = 16) (la : a < 16) (lb : b < 16) (lc : c < 16) (ld : d < 16) (n1 : a ≠ b) (n2 : a ≠ c) (n3 : a ≠ d) (n4 : b ≠ c) (n5 : b ≠ d) (n6 : c ≠ d) :
    Own w' B .u64 30 (.slice (some ⟨gv, 0, none⟩) 16 cap) ((((vs.set a va).set b vb).set c vc).set d vd) := by
  obtain ⟨zs, ho, hz, e1, e2, e3, e4, e5⟩ := h.own
  have e : zs = (((vs.set a va).set b vb).set c vc).set d vd := by
    refine ext_getD _ _ (by simp [hz, hl]) fun i hi => ?_
    by_cases hd : i = d
    · subst hd; rw [e4, getD_setsame _ _ _ (by simp; omega)]
    rw [getD_setne _ _ _ _ (Ne.symm hd)]
    by_cases hc : i = c
    · subst hc; rw [e3, getD_setsame _ _ _ (by simp; omega)]
    rw [getD_setne _ _ _ _ (Ne.symm hc)]
    by_cases hb : i = b
    · subst hb; rw [e2, getD_setsame _ _ _ (by simp; omega)]
    rw [getD_setne _ _ _ _ (Ne.symm hb)]
    by_cases ha : i = a
    · subst ha; rw [e1, getD_setsame _ _ _ (by omega)]
    rw [getD_setne _ _ _ _ (Ne.symm ha), e5 i ha hb hc hd]
  rw [← e]
  exact ho
end

set_option maxRecDepth 100000 in
set_option maxHeartbeats 4000000 in
theorem ref_mix (w : World) (B gv cap a b c d : Nat) (vs : List Int) (x y : Int) (hl : vs.length = 16) (hv : In6 vs) (la : a < 16) (lb : b < 16) (lc : c < 16) (ld : d < 16)
    (n1 : a ≠ b) (n2 : a ≠ c) (n3 : a ≠ d) (n4 : b ≠ c) (n5 : b ≠ d) (n6 : c ≠ d) (ho : Own w B .u64 30 (.slice (some ⟨gv, 0, none⟩) 16 cap) vs) :
    Calls Tryd.prog 16 #[.slice (some ⟨gv, 0, none⟩) 16 cap, .int .i64 a, .int .i64 b, .int .i64 c, .int .i64 d, .int .u64 x, .int .u64 y] w fun e w' => e = .returned (.tuple #[]) ∧ Own w' B .u64 30 (.slice (some ⟨gv, 0, none⟩) 16 cap) (mixL vs a b c d x y) ∧ Only gv w w' := by
  have ra := hv.get a
  have rb := hv.get b
  have rc := hv.get c
  have rd := hv.get d
  have H0 : Mx w B gv cap a b c d vs (vs.getD a 0) (vs.getD b 0) (vs.getD c 0) (vs.getD d 0) w := ⟨⟨vs, ho, hl, rfl, rfl, rfl, rfl, fun _ _ _ _ _ => rfl⟩, Only.refl _ _⟩
  have EF : Hid (mixL vs a b c d x y = (((vs.set a (full ⟨vs.getD a 0, vs.getD b 0, vs.getD c 0, vs.getD d 0⟩ x y).a).set b (full ⟨vs.getD a 0, vs.getD b 0, vs.getD c 0, vs.getD d 0⟩ x y).b).set c (full ⟨vs.getD a 0, vs.getD b 0, vs.getD c 0, vs.getD d 0⟩ x y).c).set d (full ⟨vs.getD a 0, vs.getD b 0, vs.getD c 0, vs.getD d 0⟩ x y).d) := rfl
  generalize vs.getD a 0 = va at *
  generalize vs.getD b 0 = vb at *
  generalize vs.getD c 0 = vc at *
  generalize vs.getD d 0 = vd at *
  have ha6 : (a : Int) < 16 := by omega
  have hb6 : (b : Int) < 16 := by omega
  have hc6 : (c : Int) < 16 := by omega
  have hd6 : (d : Int) < 16 := by omega
  -- the numbers, one by one
  have s1 := add6_eq va vb x
  have r1 : 0 ≤ add6 va (add6 vb x) ∧ add6 va (add6 vb x) < 18446744073709551616 := wrap6_range _
  obtain ⟨p1, ep1⟩ : ∃ p, add6 va (add6 vb x) = p := ⟨_, rfl⟩
  rw [ep1] at s1 r1
  obtain ⟨d1, ed1⟩ : ∃ p, turned 64 (xor6 vd p1) 32 = p := ⟨_, rfl⟩
  have rd1 : 0 ≤ d1 ∧ d1 < 18446744073709551616 := by rw [← ed1]; exact turned_range 64 _ _ (by decide) (xor6_range rd r1).1 (xor6_range rd r1).2
  have s2 : IntKind.u64.wrap (vc + d1) = add6 vc d1 := rfl
  have r2 : 0 ≤ add6 vc d1 ∧ add6 vc d1 < 18446744073709551616 := wrap6_range _
  obtain ⟨c1, ec1⟩ : ∃ p, add6 vc d1 = p := ⟨_, rfl⟩
  rw [ec1] at s2 r2
  obtain ⟨b1, eb1⟩ : ∃ p, turned 64 (xor6 vb c1) 24 = p := ⟨_, rfl⟩
  have rb1 : 0 ≤ b1 ∧ b1 < 18446744073709551616 := by rw [← eb1]; exact turned_range 64 _ _ (by decide) (xor6_range rb r2).1 (xor6_range rb r2).2
  have s3 := add6_eq p1 b1 y
  have r3 : 0 ≤ add6 p1 (add6 b1 y) ∧ add6 p1 (add6 b1 y) < 18446744073709551616 := wrap6_range _
  obtain ⟨p2, ep2⟩ : ∃ p, add6 p1 (add6 b1 y) = p := ⟨_, rfl⟩
  rw [ep2] at s3 r3
  obtain ⟨d2, ed2⟩ : ∃ p, turned 64 (xor6 d1 p2) 16 = p := ⟨_, rfl⟩
  have s4 : IntKind.u64.wrap (c1 + d2) = add6 c1 d2 := rfl
  have r4 : 0 ≤ add6 c1 d2 ∧ add6 c1 d2 < 18446744073709551616 := wrap6_range _
  obtain ⟨c2, ec2⟩ : ∃ p, add6 c1 d2 = p := ⟨_, rfl⟩
  rw [ec2] at s4 r4
  obtain ⟨b2, eb2⟩ : ∃ p, turned 64 (xor6 b1 c2) 63 = p := ⟨_, rfl⟩
  have EN : Hid (full ⟨va, vb, vc, vd⟩ x y = ⟨p2, b2, c2, d2⟩) := by
    unfold Hid
    simp only [full, half, ep1, ed1, ec1, eb1, ep2, ed2, ec2, eb2]
  have E1 := Lib.hid ed1
  have E2 := Lib.hid eb1
  have E3 := Lib.hid ed2
  have E4 := Lib.hid eb2
  clear ep1 ed1 ec1 eb1 ep2 ed2 ec2 eb2
  obtain ⟨⟨ca, cb, cc, cd⟩, fa, fb, fc, fd⟩ := H0.cells la lb lc ld
  have HH := Lib.hid H0
  clear H0 hv ho
  go_enter Tryd.func16, Tryd.ntmps16
  go_wp2_with fail
  go_still_tail 14, (by kernel_rfl)
  go_wp2_with fail
  refine gen_world ?_
  intro w1 hw1
  have H1 : Hid (Mx w B gv cap a b c d vs p1 vb vc vd w1) := by rw [hw1]; exact HH.out.seta la n1 n2 n3 1 p1
  clear hw1 ca cb cc cd fa fb fc fd HH
  obtain ⟨⟨ca, cb, cc, cd⟩, fa, fb, fc, fd⟩ := H1.out.cells la lb lc ld
  refine wp_region_quiet_tail 13 (by kernel_rfl) (by kernel_rfl) ?_
  simp only [List.take_succ_cons, List.take_zero, List.drop_succ_cons, List.drop_zero]
  repeat (quiet_step (exact Calls.quiet_of (refTurn6 vd p1 32 32 rfl rd r1 d1 E1.out _)))
  refine wpQuiet_nil ?_
  rintro _ ⟨q1, rfl⟩
  go_wp2_with fail
  refine gen_world ?_
  intro w2 hw2
  have H2 : Hid (Mx w B gv cap a b c d vs p1 vb vc d1 w2) := by rw [hw2]; exact H1.out.setd ld (Ne.symm n3) (Ne.symm n5) (Ne.symm n6) q1 d1
  clear hw2 ca cb cc cd fa fb fc fd H1
  obtain ⟨⟨ca, cb, cc, cd⟩, fa, fb, fc, fd⟩ := H2.out.cells la lb lc ld
  go_still_tail 12, (by kernel_rfl)
  go_wp2_with fail
  refine gen_world ?_
  intro w3 hw3
  have H3 : Hid (Mx w B gv cap a b c d vs p1 vb c1 d1 w3) := by rw [hw3]; exact H2.out.setc lc (Ne.symm n2) (Ne.symm n4) n6 1 c1
  clear hw3 ca cb cc cd fa fb fc fd H2
  obtain ⟨⟨ca, cb, cc, cd⟩, fa, fb, fc, fd⟩ := H3.out.cells la lb lc ld
  refine wp_region_quiet_tail 13 (by kernel_rfl) (by kernel_rfl) ?_
  simp only [List.take_succ_cons, List.take_zero, List.drop_succ_cons, List.drop_zero]
  repeat (quiet_step (exact Calls.quiet_of (refTurn6 vb c1 24 24 rfl rb r2 b1 E2.out _)))
  refine wpQuiet_nil ?_
  rintro _ ⟨q3, rfl⟩
  go_wp2_with fail
  refine gen_world ?_
  intro w4 hw4
  have H4 : Hid (Mx w B gv cap a b c d vs p1 b1 c1 d1 w4) := by rw [hw4]; exact H3.out.setb lb (Ne.symm n1) n4 n5 q3 b1
  clear hw4 ca cb cc cd fa fb fc fd H3
  obtain ⟨⟨ca, cb, cc, cd⟩, fa, fb, fc, fd⟩ := H4.out.cells la lb lc ld
  go_still_tail 14, (by kernel_rfl)
  go_wp2_with fail
  refine gen_world ?_
  intro w5 hw5
  have H5 : Hid (Mx w B gv cap a b c d vs p2 b1 c1 d1 w5) := by rw [hw5]; exact H4.out.seta la n1 n2 n3 1 p2
  clear hw5 ca cb cc cd fa fb fc fd H4
  obtain ⟨⟨ca, cb, cc, cd⟩, fa, fb, fc, fd⟩ := H5.out.cells la lb lc ld
  refine wp_region_quiet_tail 13 (by kernel_rfl) (by kernel_rfl) ?_
  simp only [List.take_succ_cons, List.take_zero, List.drop_succ_cons, List.drop_zero]
  repeat (quiet_step (exact Calls.quiet_of (refTurn6 d1 p2 16 16 rfl rd1 r3 d2 E3.out _)))
  refine wpQuiet_nil ?_
  rintro _ ⟨q5, rfl⟩
  go_wp2_with fail
  refine gen_world ?_
  intro w6 hw6
  have H6 : Hid (Mx w B gv cap a b c d vs p2 b1 c1 d2 w6) := by rw [hw6]; exact H5.out.setd ld (Ne.symm n3) (Ne.symm n5) (Ne.symm n6) q5 d2
  clear hw6 ca cb cc cd fa fb fc fd H5
  obtain ⟨⟨ca, cb, cc, cd⟩, fa, fb, fc, fd⟩ := H6.out.cells la lb lc ld
  go_still_tail 12, (by kernel_rfl)
  go_wp2_with fail
  refine gen_world ?_
  intro w7 hw7
  have H7 : Hid (Mx w B gv cap a b c d vs p2 b1 c2 d2 w7) := by rw [hw7]; exact H6.out.setc lc (Ne.symm n2) (Ne.symm n4) n6 1 c2
  clear hw7 ca cb cc cd fa fb fc fd H6
  obtain ⟨⟨ca, cb, cc, cd⟩, fa, fb, fc, fd⟩ := H7.out.cells la lb lc ld
  refine wp_region_quiet_tail 13 (by kernel_rfl) (by kernel_rfl) ?_
  simp only [List.take_succ_cons, List.take_zero, List.drop_succ_cons, List.drop_zero]
  repeat (quiet_step (exact Calls.quiet_of (refTurn6 b1 c2 63 63 rfl rb1 r4 b2 E4.out _)))
  refine wpQuiet_nil ?_
  rintro _ ⟨q7, rfl⟩
  go_wp2_with fail
  have H8 : Hid (Mx w B gv cap a b c d vs p2 b2 c2 d2 _) := Lib.hid (H7.out.setb lb (Ne.symm n1) n4 n5 q7 b2)
  clear H7 ca cb cc cd fa fb fc fd
  go_end0
  refine ⟨rfl, ?_, H8.out.only⟩
  rw [EF.out, EN.out]
  exact H8.out.fin hl la lb lc ld n1 n2 n3 n4 n5 n6
end Go.Proofs.YtgcboodlneknpaaDoor
