/- Package schema: formed. -/
import Derived.Test.YtmihoeholcaokaaKBC
namespace Go.Proofs.Ytmihoeholcaokaa
open Go.RowKit

theorem zIt_k : zIt.k = 0 := rfl
theorem zIt_n : zIt.n = 0 := rfl
theorem zIt_s : zIt.s = ⟨#[]⟩ := rfl
theorem zIt_l : zIt.l = [] := rfl
theorem two_below (w : World) (a b : Obj) : Below w.heap.size w ((w.alloc a).alloc b) := (below_alloc w a).alloc (by simp) b

set_option maxRecDepth 100000 in
set_option maxHeartbeats 2000000 in
theorem sch_formed0 (lo hi : Int) (v : It) (l : List Int) (f : List Fl) (p : Pl) (n : Nat) (w : World) (hn : n ≤ w.heap.size) (hx : NdB w n ⟨0, lo, hi, v, l, f⟩ p) (hv : okI 1048576 v) (hl : l.length ≤ 1099511627776) (hf : f.length ≤ 1099511627776) :
    Calls Try.prog 25 #[vN ⟨0, lo, hi, v, l, f⟩ p] w fun e w' => e = .returned (.bool (formN chI ⟨0, lo, hi, v, l, f⟩)) ∧ Below w.heap.size w w' := by
  obtain ⟨w1, hw1, b1, b2, S⟩ := nblk2 w 42 (nc ⟨0, lo, hi, v, l, f⟩ p) (nc ⟨0, lo, hi, v, l, f⟩ p)
  have HN : Hid (∀ W, Below w.heap.size w W → Calls Try.prog 30 #[vN (⟨0, lo, hi, v, l, f⟩ : Nd) (⟨p.Av, p.cv, p.Al, p.cl, p.Af, p.cf⟩ : Pl), vN (Nd.of 0) ⟨none, 0, none, 0, none, 0⟩] W fun e w' => e = .returned (.bool (sameN (⟨0, lo, hi, v, l, f⟩ : Nd) (Nd.of 0))) ∧ Below w.heap.size w w') := Lib.hid fun W hW => by
    have h := hx.keep (hW.mono hn)
    have hc := hv.1
    exact (sch_sameNode (⟨0, lo, hi, v, l, f⟩ : Nd) (Nd.of 0) (⟨p.Av, p.cv, p.Al, p.cl, p.Af, p.cf⟩ : Pl) _ n W (Nat.le_trans hn hW.size) ⟨h.v, h.l, h.ll, h.ln, h.f, h.fl, h.fn⟩ (of_at W n 0) (by simp only; omega) (hl) (hf)).mono fun e w' he => ⟨he.1, hW.trans (he.2.mono hW.size)⟩
  have HVA : Hid (∀ W, Below w.heap.size w W → Calls Try.prog 29 #[vI v p.Av p.cv] W fun e w' => e = .returned (.bool (valuedN chI v)) ∧ Below W.heap.size W w') := Lib.hid fun W hW => sch_valued v p.Av p.cv n W hv (Nat.le_trans hn hW.size) (hx.v.keep (hW.mono hn))
  have HR : Hid (formN chI ⟨0, lo, hi, v, l, f⟩ = ( sameN (⟨0, lo, hi, v, l, f⟩ : Nd) (Nd.of 0))) := Lib.hid (by simp [formN])
  generalize sameN (⟨0, lo, hi, v, l, f⟩ : Nd) (Nd.of 0) = rs at *
  unfold nc at b1 b2 hw1
  obtain ⟨p0, p1, p2, p3, p4, p5, p6, p7, p8⟩ := nblk b1
  obtain ⟨q0, q1, q2, q3, q4, q5, q6, q7, q8⟩ := nblk b2
  have f1 := b2.free 1
  have f2 := b2.free 2
  have f7 := b2.free 7
  have f8 := b2.free 8
  have f3 := b2.free 3
  have f4 := b2.free 4
  have f5 := b2.free 5
  have f6 := b2.free 6
  have HB1 := Lib.hid b1
  have HB2 := Lib.hid b2
  have HS := Lib.hid S
  clear b1 b2 S hn hx hv
  simp only [Nd.of, vN, vI, zIt_k, zIt_n, zIt_s, zIt_l, List.length_nil] at HN HVA ⊢
  generalize formN chI ⟨0, lo, hi, v, l, f⟩ = res at *
  go_enter Try.func25, Try.ntmps25
  go_wp2_with (first
    | (go_at_call 30; refine (HN.out _ ?hb).mono ?_; (case hb => ((repeat (refine Below.setCell ?_ (Nat.le_succ _) _)); first | exact HS.out | exact two_below _ _ _ | exact (HS.out.trans (HB4.out.mono HS.out.size)))); rintro e w3 ⟨rfl, hb3⟩)
    | (go_at_call 29; refine (HVA.out _ HS.out).mono ?_; rintro e w2 ⟨rfl, hb2⟩; obtain ⟨s0, s1, s2, s3, s4, s5, s6, s7, s8⟩ := nblk (HB1.out.on hb2); obtain ⟨t0, t1, t2, t3, t4, t5, t6, t7, t8⟩ := nblk (HB2.out.on hb2); have u3 := (HB2.out.on hb2).free 3; have u4 := (HB2.out.on hb2).free 4; have u5 := (HB2.out.on hb2).free 5; have u6 := (HB2.out.on hb2).free 6; have HB4 := Lib.hid hb2; clear hb2))
  go_ret
  exact ⟨by rw [HR.out]; rfl, hb3⟩

set_option maxRecDepth 100000 in
set_option maxHeartbeats 2000000 in
theorem sch_formed1 (lo hi : Int) (v : It) (l : List Int) (f : List Fl) (p : Pl) (n : Nat) (w : World) (hn : n ≤ w.heap.size) (hx : NdB w n ⟨1, lo, hi, v, l, f⟩ p) (hv : okI 1048576 v) (hl : l.length ≤ 1099511627776) (hf : f.length ≤ 1099511627776) :
    Calls Try.prog 25 #[vN ⟨1, lo, hi, v, l, f⟩ p] w fun e w' => e = .returned (.bool (formN chI ⟨1, lo, hi, v, l, f⟩)) ∧ Below w.heap.size w w' := by
  obtain ⟨w1, hw1, b1, b2, S⟩ := nblk2 w 42 (nc ⟨1, lo, hi, v, l, f⟩ p) (nc ⟨1, lo, hi, v, l, f⟩ p)
  have HN : Hid (∀ W, Below w.heap.size w W → Calls Try.prog 30 #[vN (⟨1, 0, 0, v, l, f⟩ : Nd) (⟨p.Av, p.cv, p.Al, p.cl, p.Af, p.cf⟩ : Pl), vN (Nd.of 1) ⟨none, 0, none, 0, none, 0⟩] W fun e w' => e = .returned (.bool (sameN (⟨1, 0, 0, v, l, f⟩ : Nd) (Nd.of 1))) ∧ Below w.heap.size w w') := Lib.hid fun W hW => by
    have h := hx.keep (hW.mono hn)
    have hc := hv.1
    exact (sch_sameNode (⟨1, 0, 0, v, l, f⟩ : Nd) (Nd.of 1) (⟨p.Av, p.cv, p.Al, p.cl, p.Af, p.cf⟩ : Pl) _ n W (Nat.le_trans hn hW.size) ⟨h.v, h.l, h.ll, h.ln, h.f, h.fl, h.fn⟩ (of_at W n 1) (by simp only; omega) (hl) (hf)).mono fun e w' he => ⟨he.1, hW.trans (he.2.mono hW.size)⟩
  have HVA : Hid (∀ W, Below w.heap.size w W → Calls Try.prog 29 #[vI v p.Av p.cv] W fun e w' => e = .returned (.bool (valuedN chI v)) ∧ Below W.heap.size W w') := Lib.hid fun W hW => sch_valued v p.Av p.cv n W hv (Nat.le_trans hn hW.size) (hx.v.keep (hW.mono hn))
  have HR : Hid (formN chI ⟨1, lo, hi, v, l, f⟩ = ( sameN (⟨1, 0, 0, v, l, f⟩ : Nd) (Nd.of 1))) := Lib.hid (by simp [formN])
  generalize sameN (⟨1, 0, 0, v, l, f⟩ : Nd) (Nd.of 1) = rs at *
  unfold nc at b1 b2 hw1
  obtain ⟨p0, p1, p2, p3, p4, p5, p6, p7, p8⟩ := nblk b1
  obtain ⟨q0, q1, q2, q3, q4, q5, q6, q7, q8⟩ := nblk b2
  have f1 := b2.free 1
  have f2 := b2.free 2
  have f7 := b2.free 7
  have f8 := b2.free 8
  have f3 := b2.free 3
  have f4 := b2.free 4
  have f5 := b2.free 5
  have f6 := b2.free 6
  have HB1 := Lib.hid b1
  have HB2 := Lib.hid b2
  have HS := Lib.hid S
  clear b1 b2 S hn hx hv
  simp only [Nd.of, vN, vI, zIt_k, zIt_n, zIt_s, zIt_l, List.length_nil] at HN HVA ⊢
  generalize formN chI ⟨1, lo, hi, v, l, f⟩ = res at *
  go_enter Try.func25, Try.ntmps25
  go_wp2_with (first
    | (go_at_call 30; refine (HN.out _ ?hb).mono ?_; (case hb => ((repeat (refine Below.setCell ?_ (Nat.le_succ _) _)); first | exact HS.out | exact two_below _ _ _ | exact (HS.out.trans (HB4.out.mono HS.out.size)))); rintro e w3 ⟨rfl, hb3⟩)
    | (go_at_call 29; refine (HVA.out _ HS.out).mono ?_; rintro e w2 ⟨rfl, hb2⟩; obtain ⟨s0, s1, s2, s3, s4, s5, s6, s7, s8⟩ := nblk (HB1.out.on hb2); obtain ⟨t0, t1, t2, t3, t4, t5, t6, t7, t8⟩ := nblk (HB2.out.on hb2); have u3 := (HB2.out.on hb2).free 3; have u4 := (HB2.out.on hb2).free 4; have u5 := (HB2.out.on hb2).free 5; have u6 := (HB2.out.on hb2).free 6; have HB4 := Lib.hid hb2; clear hb2))
  go_ret
  exact ⟨by rw [HR.out]; rfl, hb3⟩

set_option maxRecDepth 100000 in
set_option maxHeartbeats 2000000 in
theorem sch_formed2 (lo hi : Int) (v : It) (l : List Int) (f : List Fl) (p : Pl) (n : Nat) (w : World) (hn : n ≤ w.heap.size) (hx : NdB w n ⟨2, lo, hi, v, l, f⟩ p) (hv : okI 1048576 v) (hl : l.length ≤ 1099511627776) (hf : f.length ≤ 1099511627776) :
    Calls Try.prog 25 #[vN ⟨2, lo, hi, v, l, f⟩ p] w fun e w' => e = .returned (.bool (formN chI ⟨2, lo, hi, v, l, f⟩)) ∧ Below w.heap.size w w' := by
  obtain ⟨w1, hw1, b1, b2, S⟩ := nblk2 w 42 (nc ⟨2, lo, hi, v, l, f⟩ p) (nc ⟨2, lo, hi, v, l, f⟩ p)
  have HN : Hid (∀ W, Below w.heap.size w W → Calls Try.prog 30 #[vN (⟨2, 0, 0, v, l, f⟩ : Nd) (⟨p.Av, p.cv, p.Al, p.cl, p.Af, p.cf⟩ : Pl), vN (Nd.of 2) ⟨none, 0, none, 0, none, 0⟩] W fun e w' => e = .returned (.bool (sameN (⟨2, 0, 0, v, l, f⟩ : Nd) (Nd.of 2))) ∧ Below w.heap.size w w') := Lib.hid fun W hW => by
    have h := hx.keep (hW.mono hn)
    have hc := hv.1
    exact (sch_sameNode (⟨2, 0, 0, v, l, f⟩ : Nd) (Nd.of 2) (⟨p.Av, p.cv, p.Al, p.cl, p.Af, p.cf⟩ : Pl) _ n W (Nat.le_trans hn hW.size) ⟨h.v, h.l, h.ll, h.ln, h.f, h.fl, h.fn⟩ (of_at W n 2) (by simp only; omega) (hl) (hf)).mono fun e w' he => ⟨he.1, hW.trans (he.2.mono hW.size)⟩
  have HVA : Hid (∀ W, Below w.heap.size w W → Calls Try.prog 29 #[vI v p.Av p.cv] W fun e w' => e = .returned (.bool (valuedN chI v)) ∧ Below W.heap.size W w') := Lib.hid fun W hW => sch_valued v p.Av p.cv n W hv (Nat.le_trans hn hW.size) (hx.v.keep (hW.mono hn))
  have HR : Hid (formN chI ⟨2, lo, hi, v, l, f⟩ = ( sameN (⟨2, 0, 0, v, l, f⟩ : Nd) (Nd.of 2))) := Lib.hid (by simp [formN])
  generalize sameN (⟨2, 0, 0, v, l, f⟩ : Nd) (Nd.of 2) = rs at *
  unfold nc at b1 b2 hw1
  obtain ⟨p0, p1, p2, p3, p4, p5, p6, p7, p8⟩ := nblk b1
  obtain ⟨q0, q1, q2, q3, q4, q5, q6, q7, q8⟩ := nblk b2
  have f1 := b2.free 1
  have f2 := b2.free 2
  have f7 := b2.free 7
  have f8 := b2.free 8
  have f3 := b2.free 3
  have f4 := b2.free 4
  have f5 := b2.free 5
  have f6 := b2.free 6
  have HB1 := Lib.hid b1
  have HB2 := Lib.hid b2
  have HS := Lib.hid S
  clear b1 b2 S hn hx hv
  simp only [Nd.of, vN, vI, zIt_k, zIt_n, zIt_s, zIt_l, List.length_nil] at HN HVA ⊢
  generalize formN chI ⟨2, lo, hi, v, l, f⟩ = res at *
  go_enter Try.func25, Try.ntmps25
  go_wp2_with (first
    | (go_at_call 30; refine (HN.out _ ?hb).mono ?_; (case hb => ((repeat (refine Below.setCell ?_ (Nat.le_succ _) _)); first | exact HS.out | exact two_below _ _ _ | exact (HS.out.trans (HB4.out.mono HS.out.size)))); rintro e w3 ⟨rfl, hb3⟩)
    | (go_at_call 29; refine (HVA.out _ HS.out).mono ?_; rintro e w2 ⟨rfl, hb2⟩; obtain ⟨s0, s1, s2, s3, s4, s5, s6, s7, s8⟩ := nblk (HB1.out.on hb2); obtain ⟨t0, t1, t2, t3, t4, t5, t6, t7, t8⟩ := nblk (HB2.out.on hb2); have u3 := (HB2.out.on hb2).free 3; have u4 := (HB2.out.on hb2).free 4; have u5 := (HB2.out.on hb2).free 5; have u6 := (HB2.out.on hb2).free 6; have HB4 := Lib.hid hb2; clear hb2))
  go_ret
  exact ⟨by rw [HR.out]; rfl, hb3⟩

set_option maxRecDepth 100000 in
set_option maxHeartbeats 2000000 in
theorem sch_formed3 (lo hi : Int) (v : It) (l : List Int) (f : List Fl) (p : Pl) (n : Nat) (w : World) (hn : n ≤ w.heap.size) (hx : NdB w n ⟨3, lo, hi, v, l, f⟩ p) (hv : okI 1048576 v) (hl : l.length ≤ 1099511627776) (hf : f.length ≤ 1099511627776) :
    Calls Try.prog 25 #[vN ⟨3, lo, hi, v, l, f⟩ p] w fun e w' => e = .returned (.bool (formN chI ⟨3, lo, hi, v, l, f⟩)) ∧ Below w.heap.size w w' := by
  obtain ⟨w1, hw1, b1, b2, S⟩ := nblk2 w 42 (nc ⟨3, lo, hi, v, l, f⟩ p) (nc ⟨3, lo, hi, v, l, f⟩ p)
  have HN : Hid (∀ W, Below w.heap.size w W → Calls Try.prog 30 #[vN (⟨3, 0, 0, v, l, f⟩ : Nd) (⟨p.Av, p.cv, p.Al, p.cl, p.Af, p.cf⟩ : Pl), vN (Nd.of 3) ⟨none, 0, none, 0, none, 0⟩] W fun e w' => e = .returned (.bool (sameN (⟨3, 0, 0, v, l, f⟩ : Nd) (Nd.of 3))) ∧ Below w.heap.size w w') := Lib.hid fun W hW => by
    have h := hx.keep (hW.mono hn)
    have hc := hv.1
    exact (sch_sameNode (⟨3, 0, 0, v, l, f⟩ : Nd) (Nd.of 3) (⟨p.Av, p.cv, p.Al, p.cl, p.Af, p.cf⟩ : Pl) _ n W (Nat.le_trans hn hW.size) ⟨h.v, h.l, h.ll, h.ln, h.f, h.fl, h.fn⟩ (of_at W n 3) (by simp only; omega) (hl) (hf)).mono fun e w' he => ⟨he.1, hW.trans (he.2.mono hW.size)⟩
  have HVA : Hid (∀ W, Below w.heap.size w W → Calls Try.prog 29 #[vI v p.Av p.cv] W fun e w' => e = .returned (.bool (valuedN chI v)) ∧ Below W.heap.size W w') := Lib.hid fun W hW => sch_valued v p.Av p.cv n W hv (Nat.le_trans hn hW.size) (hx.v.keep (hW.mono hn))
  have HR : Hid (formN chI ⟨3, lo, hi, v, l, f⟩ = ( sameN (⟨3, 0, 0, v, l, f⟩ : Nd) (Nd.of 3))) := Lib.hid (by simp [formN])
  generalize sameN (⟨3, 0, 0, v, l, f⟩ : Nd) (Nd.of 3) = rs at *
  unfold nc at b1 b2 hw1
  obtain ⟨p0, p1, p2, p3, p4, p5, p6, p7, p8⟩ := nblk b1
  obtain ⟨q0, q1, q2, q3, q4, q5, q6, q7, q8⟩ := nblk b2
  have f1 := b2.free 1
  have f2 := b2.free 2
  have f7 := b2.free 7
  have f8 := b2.free 8
  have f3 := b2.free 3
  have f4 := b2.free 4
  have f5 := b2.free 5
  have f6 := b2.free 6
  have HB1 := Lib.hid b1
  have HB2 := Lib.hid b2
  have HS := Lib.hid S
  clear b1 b2 S hn hx hv
  simp only [Nd.of, vN, vI, zIt_k, zIt_n, zIt_s, zIt_l, List.length_nil] at HN HVA ⊢
  generalize formN chI ⟨3, lo, hi, v, l, f⟩ = res at *
  go_enter Try.func25, Try.ntmps25
  go_wp2_with (first
    | (go_at_call 30; refine (HN.out _ ?hb).mono ?_; (case hb => ((repeat (refine Below.setCell ?_ (Nat.le_succ _) _)); first | exact HS.out | exact two_below _ _ _ | exact (HS.out.trans (HB4.out.mono HS.out.size)))); rintro e w3 ⟨rfl, hb3⟩)
    | (go_at_call 29; refine (HVA.out _ HS.out).mono ?_; rintro e w2 ⟨rfl, hb2⟩; obtain ⟨s0, s1, s2, s3, s4, s5, s6, s7, s8⟩ := nblk (HB1.out.on hb2); obtain ⟨t0, t1, t2, t3, t4, t5, t6, t7, t8⟩ := nblk (HB2.out.on hb2); have u3 := (HB2.out.on hb2).free 3; have u4 := (HB2.out.on hb2).free 4; have u5 := (HB2.out.on hb2).free 5; have u6 := (HB2.out.on hb2).free 6; have HB4 := Lib.hid hb2; clear hb2))
  go_ret
  exact ⟨by rw [HR.out]; rfl, hb3⟩

set_option maxRecDepth 100000 in
set_option maxHeartbeats 2000000 in
theorem sch_formed4 (lo hi : Int) (v : It) (l : List Int) (f : List Fl) (p : Pl) (n : Nat) (w : World) (hn : n ≤ w.heap.size) (hx : NdB w n ⟨4, lo, hi, v, l, f⟩ p) (hv : okI 1048576 v) (hl : l.length ≤ 1099511627776) (hf : f.length ≤ 1099511627776) :
    Calls Try.prog 25 #[vN ⟨4, lo, hi, v, l, f⟩ p] w fun e w' => e = .returned (.bool (formN chI ⟨4, lo, hi, v, l, f⟩)) ∧ Below w.heap.size w w' := by
  obtain ⟨w1, hw1, b1, b2, S⟩ := nblk2 w 42 (nc ⟨4, lo, hi, v, l, f⟩ p) (nc ⟨4, lo, hi, v, l, f⟩ p)
  have HN : Hid (∀ W, Below w.heap.size w W → Calls Try.prog 30 #[vN (⟨4, lo, hi, zIt, l, f⟩ : Nd) (⟨none, 0, p.Al, p.cl, p.Af, p.cf⟩ : Pl), vN (Nd.of 4) ⟨none, 0, none, 0, none, 0⟩] W fun e w' => e = .returned (.bool (sameN (⟨4, lo, hi, zIt, l, f⟩ : Nd) (Nd.of 4))) ∧ Below w.heap.size w w') := Lib.hid fun W hW => by
    have h := hx.keep (hW.mono hn)
    have hc := hv.1
    exact (sch_sameNode (⟨4, lo, hi, zIt, l, f⟩ : Nd) (Nd.of 4) (⟨none, 0, p.Al, p.cl, p.Af, p.cf⟩ : Pl) _ n W (Nat.le_trans hn hW.size) ⟨zIt_at W n, h.l, h.ll, h.ln, h.f, h.fl, h.fn⟩ (of_at W n 4) (by simp only [zIt, It.count, countL]; omega) (hl) (hf)).mono fun e w' he => ⟨he.1, hW.trans (he.2.mono hW.size)⟩
  have HVA : Hid (∀ W, Below w.heap.size w W → Calls Try.prog 29 #[vI v p.Av p.cv] W fun e w' => e = .returned (.bool (valuedN chI v)) ∧ Below W.heap.size W w') := Lib.hid fun W hW => sch_valued v p.Av p.cv n W hv (Nat.le_trans hn hW.size) (hx.v.keep (hW.mono hn))
  have HR : Hid (formN chI ⟨4, lo, hi, v, l, f⟩ = (valuedN chI v && sameN (⟨4, lo, hi, zIt, l, f⟩ : Nd) (Nd.of 4))) := Lib.hid (by simp [formN])
  generalize sameN (⟨4, lo, hi, zIt, l, f⟩ : Nd) (Nd.of 4) = rs at *
  unfold nc at b1 b2 hw1
  obtain ⟨p0, p1, p2, p3, p4, p5, p6, p7, p8⟩ := nblk b1
  obtain ⟨q0, q1, q2, q3, q4, q5, q6, q7, q8⟩ := nblk b2
  have f1 := b2.free 1
  have f2 := b2.free 2
  have f7 := b2.free 7
  have f8 := b2.free 8
  have f3 := b2.free 3
  have f4 := b2.free 4
  have f5 := b2.free 5
  have f6 := b2.free 6
  have HB1 := Lib.hid b1
  have HB2 := Lib.hid b2
  have HS := Lib.hid S
  clear b1 b2 S hn hx hv
  simp only [Nd.of, vN, vI, zIt_k, zIt_n, zIt_s, zIt_l, List.length_nil] at HN HVA ⊢
  generalize formN chI ⟨4, lo, hi, v, l, f⟩ = res at *
  go_enter Try.func25, Try.ntmps25
  cases hvv : valuedN chI v <;> rw [hvv] at HVA HR
  · go_wp2_with (first
    | (go_at_call 30; refine (HN.out _ ?hb).mono ?_; (case hb => ((repeat (refine Below.setCell ?_ (Nat.le_succ _) _)); first | exact HS.out | exact two_below _ _ _ | exact (HS.out.trans (HB4.out.mono HS.out.size)))); rintro e w3 ⟨rfl, hb3⟩)
    | (go_at_call 29; refine (HVA.out _ HS.out).mono ?_; rintro e w2 ⟨rfl, hb2⟩; obtain ⟨s0, s1, s2, s3, s4, s5, s6, s7, s8⟩ := nblk (HB1.out.on hb2); obtain ⟨t0, t1, t2, t3, t4, t5, t6, t7, t8⟩ := nblk (HB2.out.on hb2); have u3 := (HB2.out.on hb2).free 3; have u4 := (HB2.out.on hb2).free 4; have u5 := (HB2.out.on hb2).free 5; have u6 := (HB2.out.on hb2).free 6; have HB4 := Lib.hid hb2; clear hb2))
    go_ret
    exact ⟨by rw [HR.out]; rfl, HS.out.trans (HB4.out.mono HS.out.size)⟩
  · go_wp2_with (first
    | (go_at_call 30; refine (HN.out _ ?hb).mono ?_; (case hb => ((repeat (refine Below.setCell ?_ (Nat.le_succ _) _)); first | exact HS.out | exact two_below _ _ _ | exact (HS.out.trans (HB4.out.mono HS.out.size)))); rintro e w3 ⟨rfl, hb3⟩)
    | (go_at_call 29; refine (HVA.out _ HS.out).mono ?_; rintro e w2 ⟨rfl, hb2⟩; obtain ⟨s0, s1, s2, s3, s4, s5, s6, s7, s8⟩ := nblk (HB1.out.on hb2); obtain ⟨t0, t1, t2, t3, t4, t5, t6, t7, t8⟩ := nblk (HB2.out.on hb2); have u3 := (HB2.out.on hb2).free 3; have u4 := (HB2.out.on hb2).free 4; have u5 := (HB2.out.on hb2).free 5; have u6 := (HB2.out.on hb2).free 6; have HB4 := Lib.hid hb2; clear hb2))
    go_ret
    exact ⟨by rw [HR.out]; rfl, hb3⟩

set_option maxRecDepth 100000 in
set_option maxHeartbeats 2000000 in
theorem sch_formed5 (lo hi : Int) (v : It) (l : List Int) (f : List Fl) (p : Pl) (n : Nat) (w : World) (hn : n ≤ w.heap.size) (hx : NdB w n ⟨5, lo, hi, v, l, f⟩ p) (hv : okI 1048576 v) (hl : l.length ≤ 1099511627776) (hf : f.length ≤ 1099511627776) :
    Calls Try.prog 25 #[vN ⟨5, lo, hi, v, l, f⟩ p] w fun e w' => e = .returned (.bool (formN chI ⟨5, lo, hi, v, l, f⟩)) ∧ Below w.heap.size w w' := by
  obtain ⟨w1, hw1, b1, b2, S⟩ := nblk2 w 42 (nc ⟨5, lo, hi, v, l, f⟩ p) (nc ⟨5, lo, hi, v, l, f⟩ p)
  have HN : Hid (∀ W, Below w.heap.size w W → Calls Try.prog 30 #[vN (⟨5, lo, hi, v, l, f⟩ : Nd) (⟨p.Av, p.cv, p.Al, p.cl, p.Af, p.cf⟩ : Pl), vN (Nd.of 5) ⟨none, 0, none, 0, none, 0⟩] W fun e w' => e = .returned (.bool (sameN (⟨5, lo, hi, v, l, f⟩ : Nd) (Nd.of 5))) ∧ Below w.heap.size w w') := Lib.hid fun W hW => by
    have h := hx.keep (hW.mono hn)
    have hc := hv.1
    exact (sch_sameNode (⟨5, lo, hi, v, l, f⟩ : Nd) (Nd.of 5) (⟨p.Av, p.cv, p.Al, p.cl, p.Af, p.cf⟩ : Pl) _ n W (Nat.le_trans hn hW.size) ⟨h.v, h.l, h.ll, h.ln, h.f, h.fl, h.fn⟩ (of_at W n 5) (by simp only; omega) (hl) (hf)).mono fun e w' he => ⟨he.1, hW.trans (he.2.mono hW.size)⟩
  have HVA : Hid (∀ W, Below w.heap.size w W → Calls Try.prog 29 #[vI v p.Av p.cv] W fun e w' => e = .returned (.bool (valuedN chI v)) ∧ Below W.heap.size W w') := Lib.hid fun W hW => sch_valued v p.Av p.cv n W hv (Nat.le_trans hn hW.size) (hx.v.keep (hW.mono hn))
  have HR : Hid (formN chI ⟨5, lo, hi, v, l, f⟩ = ( sameN (⟨5, lo, hi, v, l, f⟩ : Nd) (Nd.of 5))) := Lib.hid (by simp [formN])
  generalize sameN (⟨5, lo, hi, v, l, f⟩ : Nd) (Nd.of 5) = rs at *
  unfold nc at b1 b2 hw1
  obtain ⟨p0, p1, p2, p3, p4, p5, p6, p7, p8⟩ := nblk b1
  obtain ⟨q0, q1, q2, q3, q4, q5, q6, q7, q8⟩ := nblk b2
  have f1 := b2.free 1
  have f2 := b2.free 2
  have f7 := b2.free 7
  have f8 := b2.free 8
  have f3 := b2.free 3
  have f4 := b2.free 4
  have f5 := b2.free 5
  have f6 := b2.free 6
  have HB1 := Lib.hid b1
  have HB2 := Lib.hid b2
  have HS := Lib.hid S
  clear b1 b2 S hn hx hv
  simp only [Nd.of, vN, vI, zIt_k, zIt_n, zIt_s, zIt_l, List.length_nil] at HN HVA ⊢
  generalize formN chI ⟨5, lo, hi, v, l, f⟩ = res at *
  go_enter Try.func25, Try.ntmps25
  go_wp2_with (first
    | (go_at_call 30; refine (HN.out _ ?hb).mono ?_; (case hb => ((repeat (refine Below.setCell ?_ (Nat.le_succ _) _)); first | exact HS.out | exact two_below _ _ _ | exact (HS.out.trans (HB4.out.mono HS.out.size)))); rintro e w3 ⟨rfl, hb3⟩)
    | (go_at_call 29; refine (HVA.out _ HS.out).mono ?_; rintro e w2 ⟨rfl, hb2⟩; obtain ⟨s0, s1, s2, s3, s4, s5, s6, s7, s8⟩ := nblk (HB1.out.on hb2); obtain ⟨t0, t1, t2, t3, t4, t5, t6, t7, t8⟩ := nblk (HB2.out.on hb2); have u3 := (HB2.out.on hb2).free 3; have u4 := (HB2.out.on hb2).free 4; have u5 := (HB2.out.on hb2).free 5; have u6 := (HB2.out.on hb2).free 6; have HB4 := Lib.hid hb2; clear hb2))
  go_ret
  exact ⟨by rw [HR.out]; rfl, hb3⟩

set_option maxRecDepth 100000 in
set_option maxHeartbeats 2000000 in
theorem sch_formed6 (lo hi : Int) (v : It) (l : List Int) (f : List Fl) (p : Pl) (n : Nat) (w : World) (hn : n ≤ w.heap.size) (hx : NdB w n ⟨6, lo, hi, v, l, f⟩ p) (hv : okI 1048576 v) (hl : l.length ≤ 1099511627776) (hf : f.length ≤ 1099511627776) :
    Calls Try.prog 25 #[vN ⟨6, lo, hi, v, l, f⟩ p] w fun e w' => e = .returned (.bool (formN chI ⟨6, lo, hi, v, l, f⟩)) ∧ Below w.heap.size w w' := by
  obtain ⟨w1, hw1, b1, b2, S⟩ := nblk2 w 42 (nc ⟨6, lo, hi, v, l, f⟩ p) (nc ⟨6, lo, hi, v, l, f⟩ p)
  have HN : Hid (∀ W, Below w.heap.size w W → Calls Try.prog 30 #[vN (⟨6, 0, 0, v, [], f⟩ : Nd) (⟨p.Av, p.cv, none, 0, p.Af, p.cf⟩ : Pl), vN (Nd.of 6) ⟨none, 0, none, 0, none, 0⟩] W fun e w' => e = .returned (.bool (sameN (⟨6, 0, 0, v, [], f⟩ : Nd) (Nd.of 6))) ∧ Below w.heap.size w w') := Lib.hid fun W hW => by
    have h := hx.keep (hW.mono hn)
    have hc := hv.1
    exact (sch_sameNode (⟨6, 0, 0, v, [], f⟩ : Nd) (Nd.of 6) (⟨p.Av, p.cv, none, 0, p.Af, p.cf⟩ : Pl) _ n W (Nat.le_trans hn hW.size) ⟨h.v, fun h => absurd h (by simp), Nat.zero_le _, fun _ => rfl, h.f, h.fl, h.fn⟩ (of_at W n 6) (by simp only; omega) (Nat.zero_le _) (hf)).mono fun e w' he => ⟨he.1, hW.trans (he.2.mono hW.size)⟩
  have HVA : Hid (∀ W, Below w.heap.size w W → Calls Try.prog 29 #[vI v p.Av p.cv] W fun e w' => e = .returned (.bool (valuedN chI v)) ∧ Below W.heap.size W w') := Lib.hid fun W hW => sch_valued v p.Av p.cv n W hv (Nat.le_trans hn hW.size) (hx.v.keep (hW.mono hn))
  have HR : Hid (formN chI ⟨6, lo, hi, v, l, f⟩ = (decide (l.length = 1) && sameN (⟨6, 0, 0, v, [], f⟩ : Nd) (Nd.of 6))) := Lib.hid (by simp [formN])
  generalize sameN (⟨6, 0, 0, v, [], f⟩ : Nd) (Nd.of 6) = rs at *
  unfold nc at b1 b2 hw1
  obtain ⟨p0, p1, p2, p3, p4, p5, p6, p7, p8⟩ := nblk b1
  obtain ⟨q0, q1, q2, q3, q4, q5, q6, q7, q8⟩ := nblk b2
  have f1 := b2.free 1
  have f2 := b2.free 2
  have f7 := b2.free 7
  have f8 := b2.free 8
  have f3 := b2.free 3
  have f4 := b2.free 4
  have f5 := b2.free 5
  have f6 := b2.free 6
  have HB1 := Lib.hid b1
  have HB2 := Lib.hid b2
  have HS := Lib.hid S
  clear b1 b2 S hn hx hv
  simp only [Nd.of, vN, vI, zIt_k, zIt_n, zIt_s, zIt_l, List.length_nil] at HN HVA ⊢
  generalize formN chI ⟨6, lo, hi, v, l, f⟩ = res at *
  go_enter Try.func25, Try.ntmps25
  generalize l.length = m at *
  rcases m with _ | _ | m
  · go_wp2_with (first
    | (go_at_call 30; refine (HN.out _ ?hb).mono ?_; (case hb => ((repeat (refine Below.setCell ?_ (Nat.le_succ _) _)); first | exact HS.out | exact two_below _ _ _ | exact (HS.out.trans (HB4.out.mono HS.out.size)))); rintro e w3 ⟨rfl, hb3⟩)
    | (go_at_call 29; refine (HVA.out _ HS.out).mono ?_; rintro e w2 ⟨rfl, hb2⟩; obtain ⟨s0, s1, s2, s3, s4, s5, s6, s7, s8⟩ := nblk (HB1.out.on hb2); obtain ⟨t0, t1, t2, t3, t4, t5, t6, t7, t8⟩ := nblk (HB2.out.on hb2); have u3 := (HB2.out.on hb2).free 3; have u4 := (HB2.out.on hb2).free 4; have u5 := (HB2.out.on hb2).free 5; have u6 := (HB2.out.on hb2).free 6; have HB4 := Lib.hid hb2; clear hb2))
    go_ret
    exact ⟨by rw [HR.out]; (first | (simp; done) | rfl), by first | exact hb3 | ((repeat (refine Below.setCell ?_ (Nat.le_succ _) _)); exact HS.out)⟩
  · go_wp2_with (first
    | (go_at_call 30; refine (HN.out _ ?hb).mono ?_; (case hb => ((repeat (refine Below.setCell ?_ (Nat.le_succ _) _)); first | exact HS.out | exact two_below _ _ _ | exact (HS.out.trans (HB4.out.mono HS.out.size)))); rintro e w3 ⟨rfl, hb3⟩)
    | (go_at_call 29; refine (HVA.out _ HS.out).mono ?_; rintro e w2 ⟨rfl, hb2⟩; obtain ⟨s0, s1, s2, s3, s4, s5, s6, s7, s8⟩ := nblk (HB1.out.on hb2); obtain ⟨t0, t1, t2, t3, t4, t5, t6, t7, t8⟩ := nblk (HB2.out.on hb2); have u3 := (HB2.out.on hb2).free 3; have u4 := (HB2.out.on hb2).free 4; have u5 := (HB2.out.on hb2).free 5; have u6 := (HB2.out.on hb2).free 6; have HB4 := Lib.hid hb2; clear hb2))
    go_ret
    exact ⟨by rw [HR.out]; (first | (simp; done) | rfl), by first | exact hb3 | ((repeat (refine Below.setCell ?_ (Nat.le_succ _) _)); exact HS.out)⟩
  · go_wp2_with (first
    | (go_at_call 30; refine (HN.out _ ?hb).mono ?_; (case hb => ((repeat (refine Below.setCell ?_ (Nat.le_succ _) _)); first | exact HS.out | exact two_below _ _ _ | exact (HS.out.trans (HB4.out.mono HS.out.size)))); rintro e w3 ⟨rfl, hb3⟩)
    | (go_at_call 29; refine (HVA.out _ HS.out).mono ?_; rintro e w2 ⟨rfl, hb2⟩; obtain ⟨s0, s1, s2, s3, s4, s5, s6, s7, s8⟩ := nblk (HB1.out.on hb2); obtain ⟨t0, t1, t2, t3, t4, t5, t6, t7, t8⟩ := nblk (HB2.out.on hb2); have u3 := (HB2.out.on hb2).free 3; have u4 := (HB2.out.on hb2).free 4; have u5 := (HB2.out.on hb2).free 5; have u6 := (HB2.out.on hb2).free 6; have HB4 := Lib.hid hb2; clear hb2))
    go_ret
    exact ⟨by rw [HR.out]; (first | (simp; done) | rfl), by first | exact hb3 | ((repeat (refine Below.setCell ?_ (Nat.le_succ _) _)); exact HS.out)⟩


set_option maxRecDepth 100000 in
set_option maxHeartbeats 2000000 in
theorem sch_formed7 (lo hi : Int) (v : It) (l : List Int) (f : List Fl) (p : Pl) (n : Nat) (w : World) (hn : n ≤ w.heap.size) (hx : NdB w n ⟨7, lo, hi, v, l, f⟩ p) (hv : okI 1048576 v) (_hl : l.length ≤ 1099511627776) (hf : f.length ≤ 1099511627776) :
    Calls Try.prog 25 #[vN ⟨7, lo, hi, v, l, f⟩ p] w fun e w' => e = .returned (.bool (formN chI ⟨7, lo, hi, v, l, f⟩)) ∧ Below w.heap.size w w' := by
  obtain ⟨w1, hw1, b1, b2, S⟩ := nblk2 w 42 (nc ⟨7, lo, hi, v, l, f⟩ p) (nc ⟨7, lo, hi, v, l, f⟩ p)
  have HN : Hid (∀ W, Below w.heap.size w W → Calls Try.prog 30 #[vN (⟨7, lo, hi, v, [], f⟩ : Nd) (⟨p.Av, p.cv, none, 0, p.Af, p.cf⟩ : Pl), vN (Nd.of 7) ⟨none, 0, none, 0, none, 0⟩] W fun e w' => e = .returned (.bool (sameN (⟨7, lo, hi, v, [], f⟩ : Nd) (Nd.of 7))) ∧ Below w.heap.size w w') := Lib.hid fun W hW => by
    have h := hx.keep (hW.mono hn)
    have hc := hv.1
    exact (sch_sameNode (⟨7, lo, hi, v, [], f⟩ : Nd) (Nd.of 7) (⟨p.Av, p.cv, none, 0, p.Af, p.cf⟩ : Pl) _ n W (Nat.le_trans hn hW.size) ⟨h.v, fun h => absurd h (by simp), Nat.zero_le _, fun _ => rfl, h.f, h.fl, h.fn⟩ (of_at W n 7) (by simp only; omega) (Nat.zero_le _) (hf)).mono fun e w' he => ⟨he.1, hW.trans (he.2.mono hW.size)⟩
  have HVA : Hid (∀ W, Below w.heap.size w W → Calls Try.prog 29 #[vI v p.Av p.cv] W fun e w' => e = .returned (.bool (valuedN chI v)) ∧ Below W.heap.size W w') := Lib.hid fun W hW => sch_valued v p.Av p.cv n W hv (Nat.le_trans hn hW.size) (hx.v.keep (hW.mono hn))
  have HR : Hid (formN chI ⟨7, lo, hi, v, l, f⟩ = ( sameN (⟨7, lo, hi, v, [], f⟩ : Nd) (Nd.of 7))) := Lib.hid (by simp [formN])
  generalize sameN (⟨7, lo, hi, v, [], f⟩ : Nd) (Nd.of 7) = rs at *
  unfold nc at b1 b2 hw1
  obtain ⟨p0, p1, p2, p3, p4, p5, p6, p7, p8⟩ := nblk b1
  obtain ⟨q0, q1, q2, q3, q4, q5, q6, q7, q8⟩ := nblk b2
  have f1 := b2.free 1
  have f2 := b2.free 2
  have f7 := b2.free 7
  have f8 := b2.free 8
  have f3 := b2.free 3
  have f4 := b2.free 4
  have f5 := b2.free 5
  have f6 := b2.free 6
  have HB1 := Lib.hid b1
  have HB2 := Lib.hid b2
  have HS := Lib.hid S
  clear b1 b2 S hn hx hv
  simp only [Nd.of, vN, vI, zIt_k, zIt_n, zIt_s, zIt_l, List.length_nil] at HN HVA ⊢
  generalize formN chI ⟨7, lo, hi, v, l, f⟩ = res at *
  go_enter Try.func25, Try.ntmps25
  go_wp2_with (first
    | (go_at_call 30; refine (HN.out _ ?hb).mono ?_; (case hb => ((repeat (refine Below.setCell ?_ (Nat.le_succ _) _)); first | exact HS.out | exact two_below _ _ _ | exact (HS.out.trans (HB4.out.mono HS.out.size)))); rintro e w3 ⟨rfl, hb3⟩)
    | (go_at_call 29; refine (HVA.out _ HS.out).mono ?_; rintro e w2 ⟨rfl, hb2⟩; obtain ⟨s0, s1, s2, s3, s4, s5, s6, s7, s8⟩ := nblk (HB1.out.on hb2); obtain ⟨t0, t1, t2, t3, t4, t5, t6, t7, t8⟩ := nblk (HB2.out.on hb2); have u3 := (HB2.out.on hb2).free 3; have u4 := (HB2.out.on hb2).free 4; have u5 := (HB2.out.on hb2).free 5; have u6 := (HB2.out.on hb2).free 6; have HB4 := Lib.hid hb2; clear hb2))
  go_ret
  exact ⟨by rw [HR.out]; rfl, hb3⟩

set_option maxRecDepth 100000 in
set_option maxHeartbeats 2000000 in
theorem sch_formed8 (lo hi : Int) (v : It) (l : List Int) (f : List Fl) (p : Pl) (n : Nat) (w : World) (hn : n ≤ w.heap.size) (hx : NdB w n ⟨8, lo, hi, v, l, f⟩ p) (hv : okI 1048576 v) (hl : l.length ≤ 1099511627776) (_hf : f.length ≤ 1099511627776) :
    Calls Try.prog 25 #[vN ⟨8, lo, hi, v, l, f⟩ p] w fun e w' => e = .returned (.bool (formN chI ⟨8, lo, hi, v, l, f⟩)) ∧ Below w.heap.size w w' := by
  obtain ⟨w1, hw1, b1, b2, S⟩ := nblk2 w 42 (nc ⟨8, lo, hi, v, l, f⟩ p) (nc ⟨8, lo, hi, v, l, f⟩ p)
  have HN : Hid (∀ W, Below w.heap.size w W → Calls Try.prog 30 #[vN (⟨8, lo, hi, v, l, []⟩ : Nd) (⟨p.Av, p.cv, p.Al, p.cl, none, 0⟩ : Pl), vN (Nd.of 8) ⟨none, 0, none, 0, none, 0⟩] W fun e w' => e = .returned (.bool (sameN (⟨8, lo, hi, v, l, []⟩ : Nd) (Nd.of 8))) ∧ Below w.heap.size w w') := Lib.hid fun W hW => by
    have h := hx.keep (hW.mono hn)
    have hc := hv.1
    exact (sch_sameNode (⟨8, lo, hi, v, l, []⟩ : Nd) (Nd.of 8) (⟨p.Av, p.cv, p.Al, p.cl, none, 0⟩ : Pl) _ n W (Nat.le_trans hn hW.size) ⟨h.v, h.l, h.ll, h.ln, RdF.nil, Nat.zero_le _, fun _ => rfl⟩ (of_at W n 8) (by simp only; omega) (hl) (Nat.zero_le _)).mono fun e w' he => ⟨he.1, hW.trans (he.2.mono hW.size)⟩
  have HVA : Hid (∀ W, Below w.heap.size w W → Calls Try.prog 29 #[vI v p.Av p.cv] W fun e w' => e = .returned (.bool (valuedN chI v)) ∧ Below W.heap.size W w') := Lib.hid fun W hW => sch_valued v p.Av p.cv n W hv (Nat.le_trans hn hW.size) (hx.v.keep (hW.mono hn))
  have HR : Hid (formN chI ⟨8, lo, hi, v, l, f⟩ = ( sameN (⟨8, lo, hi, v, l, []⟩ : Nd) (Nd.of 8))) := Lib.hid (by simp [formN])
  generalize sameN (⟨8, lo, hi, v, l, []⟩ : Nd) (Nd.of 8) = rs at *
  unfold nc at b1 b2 hw1
  obtain ⟨p0, p1, p2, p3, p4, p5, p6, p7, p8⟩ := nblk b1
  obtain ⟨q0, q1, q2, q3, q4, q5, q6, q7, q8⟩ := nblk b2
  have f1 := b2.free 1
  have f2 := b2.free 2
  have f7 := b2.free 7
  have f8 := b2.free 8
  have f3 := b2.free 3
  have f4 := b2.free 4
  have f5 := b2.free 5
  have f6 := b2.free 6
  have HB1 := Lib.hid b1
  have HB2 := Lib.hid b2
  have HS := Lib.hid S
  clear b1 b2 S hn hx hv
  simp only [Nd.of, vN, vI, zIt_k, zIt_n, zIt_s, zIt_l, List.length_nil] at HN HVA ⊢
  generalize formN chI ⟨8, lo, hi, v, l, f⟩ = res at *
  go_enter Try.func25, Try.ntmps25
  go_wp2_with (first
    | (go_at_call 30; refine (HN.out _ ?hb).mono ?_; (case hb => ((repeat (refine Below.setCell ?_ (Nat.le_succ _) _)); first | exact HS.out | exact two_below _ _ _ | exact (HS.out.trans (HB4.out.mono HS.out.size)))); rintro e w3 ⟨rfl, hb3⟩)
    | (go_at_call 29; refine (HVA.out _ HS.out).mono ?_; rintro e w2 ⟨rfl, hb2⟩; obtain ⟨s0, s1, s2, s3, s4, s5, s6, s7, s8⟩ := nblk (HB1.out.on hb2); obtain ⟨t0, t1, t2, t3, t4, t5, t6, t7, t8⟩ := nblk (HB2.out.on hb2); have u3 := (HB2.out.on hb2).free 3; have u4 := (HB2.out.on hb2).free 4; have u5 := (HB2.out.on hb2).free 5; have u6 := (HB2.out.on hb2).free 6; have HB4 := Lib.hid hb2; clear hb2))
  go_ret
  exact ⟨by rw [HR.out]; rfl, hb3⟩

set_option maxRecDepth 100000 in
set_option maxHeartbeats 2000000 in
theorem sch_formed9 (lo hi : Int) (v : It) (l : List Int) (f : List Fl) (p : Pl) (n : Nat) (w : World) (hn : n ≤ w.heap.size) (hx : NdB w n ⟨9, lo, hi, v, l, f⟩ p) (hv : okI 1048576 v) (hl : l.length ≤ 1099511627776) (hf : f.length ≤ 1099511627776) :
    Calls Try.prog 25 #[vN ⟨9, lo, hi, v, l, f⟩ p] w fun e w' => e = .returned (.bool (formN chI ⟨9, lo, hi, v, l, f⟩)) ∧ Below w.heap.size w w' := by
  obtain ⟨w1, hw1, b1, b2, S⟩ := nblk2 w 42 (nc ⟨9, lo, hi, v, l, f⟩ p) (nc ⟨9, lo, hi, v, l, f⟩ p)
  have HN : Hid (∀ W, Below w.heap.size w W → Calls Try.prog 30 #[vN (⟨9, 0, hi, v, [], f⟩ : Nd) (⟨p.Av, p.cv, none, 0, p.Af, p.cf⟩ : Pl), vN (Nd.of 9) ⟨none, 0, none, 0, none, 0⟩] W fun e w' => e = .returned (.bool (sameN (⟨9, 0, hi, v, [], f⟩ : Nd) (Nd.of 9))) ∧ Below w.heap.size w w') := Lib.hid fun W hW => by
    have h := hx.keep (hW.mono hn)
    have hc := hv.1
    exact (sch_sameNode (⟨9, 0, hi, v, [], f⟩ : Nd) (Nd.of 9) (⟨p.Av, p.cv, none, 0, p.Af, p.cf⟩ : Pl) _ n W (Nat.le_trans hn hW.size) ⟨h.v, fun h => absurd h (by simp), Nat.zero_le _, fun _ => rfl, h.f, h.fl, h.fn⟩ (of_at W n 9) (by simp only; omega) (Nat.zero_le _) (hf)).mono fun e w' he => ⟨he.1, hW.trans (he.2.mono hW.size)⟩
  have HVA : Hid (∀ W, Below w.heap.size w W → Calls Try.prog 29 #[vI v p.Av p.cv] W fun e w' => e = .returned (.bool (valuedN chI v)) ∧ Below W.heap.size W w') := Lib.hid fun W hW => sch_valued v p.Av p.cv n W hv (Nat.le_trans hn hW.size) (hx.v.keep (hW.mono hn))
  have HR : Hid (formN chI ⟨9, lo, hi, v, l, f⟩ = (decide (l.length = 1) && sameN (⟨9, 0, hi, v, [], f⟩ : Nd) (Nd.of 9))) := Lib.hid (by simp [formN])
  generalize sameN (⟨9, 0, hi, v, [], f⟩ : Nd) (Nd.of 9) = rs at *
  unfold nc at b1 b2 hw1
  obtain ⟨p0, p1, p2, p3, p4, p5, p6, p7, p8⟩ := nblk b1
  obtain ⟨q0, q1, q2, q3, q4, q5, q6, q7, q8⟩ := nblk b2
  have f1 := b2.free 1
  have f2 := b2.free 2
  have f7 := b2.free 7
  have f8 := b2.free 8
  have f3 := b2.free 3
  have f4 := b2.free 4
  have f5 := b2.free 5
  have f6 := b2.free 6
  have HB1 := Lib.hid b1
  have HB2 := Lib.hid b2
  have HS := Lib.hid S
  clear b1 b2 S hn hx hv
  simp only [Nd.of, vN, vI, zIt_k, zIt_n, zIt_s, zIt_l, List.length_nil] at HN HVA ⊢
  generalize formN chI ⟨9, lo, hi, v, l, f⟩ = res at *
  go_enter Try.func25, Try.ntmps25
  generalize l.length = m at *
  rcases m with _ | _ | m
  · go_wp2_with (first
    | (go_at_call 30; refine (HN.out _ ?hb).mono ?_; (case hb => ((repeat (refine Below.setCell ?_ (Nat.le_succ _) _)); first | exact HS.out | exact two_below _ _ _ | exact (HS.out.trans (HB4.out.mono HS.out.size)))); rintro e w3 ⟨rfl, hb3⟩)
    | (go_at_call 29; refine (HVA.out _ HS.out).mono ?_; rintro e w2 ⟨rfl, hb2⟩; obtain ⟨s0, s1, s2, s3, s4, s5, s6, s7, s8⟩ := nblk (HB1.out.on hb2); obtain ⟨t0, t1, t2, t3, t4, t5, t6, t7, t8⟩ := nblk (HB2.out.on hb2); have u3 := (HB2.out.on hb2).free 3; have u4 := (HB2.out.on hb2).free 4; have u5 := (HB2.out.on hb2).free 5; have u6 := (HB2.out.on hb2).free 6; have HB4 := Lib.hid hb2; clear hb2))
    go_ret
    exact ⟨by rw [HR.out]; (first | (simp; done) | rfl), by first | exact hb3 | ((repeat (refine Below.setCell ?_ (Nat.le_succ _) _)); exact HS.out)⟩
  · go_wp2_with (first
    | (go_at_call 30; refine (HN.out _ ?hb).mono ?_; (case hb => ((repeat (refine Below.setCell ?_ (Nat.le_succ _) _)); first | exact HS.out | exact two_below _ _ _ | exact (HS.out.trans (HB4.out.mono HS.out.size)))); rintro e w3 ⟨rfl, hb3⟩)
    | (go_at_call 29; refine (HVA.out _ HS.out).mono ?_; rintro e w2 ⟨rfl, hb2⟩; obtain ⟨s0, s1, s2, s3, s4, s5, s6, s7, s8⟩ := nblk (HB1.out.on hb2); obtain ⟨t0, t1, t2, t3, t4, t5, t6, t7, t8⟩ := nblk (HB2.out.on hb2); have u3 := (HB2.out.on hb2).free 3; have u4 := (HB2.out.on hb2).free 4; have u5 := (HB2.out.on hb2).free 5; have u6 := (HB2.out.on hb2).free 6; have HB4 := Lib.hid hb2; clear hb2))
    go_ret
    exact ⟨by rw [HR.out]; (first | (simp; done) | rfl), by first | exact hb3 | ((repeat (refine Below.setCell ?_ (Nat.le_succ _) _)); exact HS.out)⟩
  · go_wp2_with (first
    | (go_at_call 30; refine (HN.out _ ?hb).mono ?_; (case hb => ((repeat (refine Below.setCell ?_ (Nat.le_succ _) _)); first | exact HS.out | exact two_below _ _ _ | exact (HS.out.trans (HB4.out.mono HS.out.size)))); rintro e w3 ⟨rfl, hb3⟩)
    | (go_at_call 29; refine (HVA.out _ HS.out).mono ?_; rintro e w2 ⟨rfl, hb2⟩; obtain ⟨s0, s1, s2, s3, s4, s5, s6, s7, s8⟩ := nblk (HB1.out.on hb2); obtain ⟨t0, t1, t2, t3, t4, t5, t6, t7, t8⟩ := nblk (HB2.out.on hb2); have u3 := (HB2.out.on hb2).free 3; have u4 := (HB2.out.on hb2).free 4; have u5 := (HB2.out.on hb2).free 5; have u6 := (HB2.out.on hb2).free 6; have HB4 := Lib.hid hb2; clear hb2))
    go_ret
    exact ⟨by rw [HR.out]; (first | (simp; done) | rfl), by first | exact hb3 | ((repeat (refine Below.setCell ?_ (Nat.le_succ _) _)); exact HS.out)⟩


set_option maxRecDepth 100000 in
set_option maxHeartbeats 2000000 in
theorem sch_formed10 (lo hi : Int) (v : It) (l : List Int) (f : List Fl) (p : Pl) (n : Nat) (w : World) (hn : n ≤ w.heap.size) (hx : NdB w n ⟨10, lo, hi, v, l, f⟩ p) (hv : okI 1048576 v) (hl : l.length ≤ 1099511627776) (hf : f.length ≤ 1099511627776) :
    Calls Try.prog 25 #[vN ⟨10, lo, hi, v, l, f⟩ p] w fun e w' => e = .returned (.bool (formN chI ⟨10, lo, hi, v, l, f⟩)) ∧ Below w.heap.size w w' := by
  obtain ⟨w1, hw1, b1, b2, S⟩ := nblk2 w 42 (nc ⟨10, lo, hi, v, l, f⟩ p) (nc ⟨10, lo, hi, v, l, f⟩ p)
  have HN : Hid (∀ W, Below w.heap.size w W → Calls Try.prog 30 #[vN (⟨10, lo, hi, v, [], f⟩ : Nd) (⟨p.Av, p.cv, none, 0, p.Af, p.cf⟩ : Pl), vN (Nd.of 10) ⟨none, 0, none, 0, none, 0⟩] W fun e w' => e = .returned (.bool (sameN (⟨10, lo, hi, v, [], f⟩ : Nd) (Nd.of 10))) ∧ Below w.heap.size w w') := Lib.hid fun W hW => by
    have h := hx.keep (hW.mono hn)
    have hc := hv.1
    exact (sch_sameNode (⟨10, lo, hi, v, [], f⟩ : Nd) (Nd.of 10) (⟨p.Av, p.cv, none, 0, p.Af, p.cf⟩ : Pl) _ n W (Nat.le_trans hn hW.size) ⟨h.v, fun h => absurd h (by simp), Nat.zero_le _, fun _ => rfl, h.f, h.fl, h.fn⟩ (of_at W n 10) (by simp only; omega) (Nat.zero_le _) (hf)).mono fun e w' he => ⟨he.1, hW.trans (he.2.mono hW.size)⟩
  have HVA : Hid (∀ W, Below w.heap.size w W → Calls Try.prog 29 #[vI v p.Av p.cv] W fun e w' => e = .returned (.bool (valuedN chI v)) ∧ Below W.heap.size W w') := Lib.hid fun W hW => sch_valued v p.Av p.cv n W hv (Nat.le_trans hn hW.size) (hx.v.keep (hW.mono hn))
  have HR : Hid (formN chI ⟨10, lo, hi, v, l, f⟩ = (decide (1 ≤ l.length) && sameN (⟨10, lo, hi, v, [], f⟩ : Nd) (Nd.of 10))) := Lib.hid (by simp [formN])
  generalize sameN (⟨10, lo, hi, v, [], f⟩ : Nd) (Nd.of 10) = rs at *
  unfold nc at b1 b2 hw1
  obtain ⟨p0, p1, p2, p3, p4, p5, p6, p7, p8⟩ := nblk b1
  obtain ⟨q0, q1, q2, q3, q4, q5, q6, q7, q8⟩ := nblk b2
  have f1 := b2.free 1
  have f2 := b2.free 2
  have f7 := b2.free 7
  have f8 := b2.free 8
  have f3 := b2.free 3
  have f4 := b2.free 4
  have f5 := b2.free 5
  have f6 := b2.free 6
  have HB1 := Lib.hid b1
  have HB2 := Lib.hid b2
  have HS := Lib.hid S
  clear b1 b2 S hn hx hv
  simp only [Nd.of, vN, vI, zIt_k, zIt_n, zIt_s, zIt_l, List.length_nil] at HN HVA ⊢
  generalize formN chI ⟨10, lo, hi, v, l, f⟩ = res at *
  go_enter Try.func25, Try.ntmps25
  generalize l.length = m at *
  rcases m with _ | _ | m
  · go_wp2_with (first
    | (go_at_call 30; refine (HN.out _ ?hb).mono ?_; (case hb => ((repeat (refine Below.setCell ?_ (Nat.le_succ _) _)); first | exact HS.out | exact two_below _ _ _ | exact (HS.out.trans (HB4.out.mono HS.out.size)))); rintro e w3 ⟨rfl, hb3⟩)
    | (go_at_call 29; refine (HVA.out _ HS.out).mono ?_; rintro e w2 ⟨rfl, hb2⟩; obtain ⟨s0, s1, s2, s3, s4, s5, s6, s7, s8⟩ := nblk (HB1.out.on hb2); obtain ⟨t0, t1, t2, t3, t4, t5, t6, t7, t8⟩ := nblk (HB2.out.on hb2); have u3 := (HB2.out.on hb2).free 3; have u4 := (HB2.out.on hb2).free 4; have u5 := (HB2.out.on hb2).free 5; have u6 := (HB2.out.on hb2).free 6; have HB4 := Lib.hid hb2; clear hb2))
    go_ret
    exact ⟨by rw [HR.out]; (first | (simp; done) | rfl), by first | exact hb3 | ((repeat (refine Below.setCell ?_ (Nat.le_succ _) _)); exact HS.out)⟩
  · go_wp2_with (first
    | (go_at_call 30; refine (HN.out _ ?hb).mono ?_; (case hb => ((repeat (refine Below.setCell ?_ (Nat.le_succ _) _)); first | exact HS.out | exact two_below _ _ _ | exact (HS.out.trans (HB4.out.mono HS.out.size)))); rintro e w3 ⟨rfl, hb3⟩)
    | (go_at_call 29; refine (HVA.out _ HS.out).mono ?_; rintro e w2 ⟨rfl, hb2⟩; obtain ⟨s0, s1, s2, s3, s4, s5, s6, s7, s8⟩ := nblk (HB1.out.on hb2); obtain ⟨t0, t1, t2, t3, t4, t5, t6, t7, t8⟩ := nblk (HB2.out.on hb2); have u3 := (HB2.out.on hb2).free 3; have u4 := (HB2.out.on hb2).free 4; have u5 := (HB2.out.on hb2).free 5; have u6 := (HB2.out.on hb2).free 6; have HB4 := Lib.hid hb2; clear hb2))
    go_ret
    exact ⟨by rw [HR.out]; (first | (simp; done) | rfl), by first | exact hb3 | ((repeat (refine Below.setCell ?_ (Nat.le_succ _) _)); exact HS.out)⟩
  · go_wp2_with (first
    | (go_at_call 30; refine (HN.out _ ?hb).mono ?_; (case hb => ((repeat (refine Below.setCell ?_ (Nat.le_succ _) _)); first | exact HS.out | exact two_below _ _ _ | exact (HS.out.trans (HB4.out.mono HS.out.size)))); rintro e w3 ⟨rfl, hb3⟩)
    | (go_at_call 29; refine (HVA.out _ HS.out).mono ?_; rintro e w2 ⟨rfl, hb2⟩; obtain ⟨s0, s1, s2, s3, s4, s5, s6, s7, s8⟩ := nblk (HB1.out.on hb2); obtain ⟨t0, t1, t2, t3, t4, t5, t6, t7, t8⟩ := nblk (HB2.out.on hb2); have u3 := (HB2.out.on hb2).free 3; have u4 := (HB2.out.on hb2).free 4; have u5 := (HB2.out.on hb2).free 5; have u6 := (HB2.out.on hb2).free 6; have HB4 := Lib.hid hb2; clear hb2))
    go_ret
    exact ⟨by rw [HR.out]; (first | (simp; done) | rfl), by first | exact hb3 | ((repeat (refine Below.setCell ?_ (Nat.le_succ _) _)); exact HS.out)⟩


theorem sch_formed (x : Nd) (p : Pl) (n : Nat) (w : World) (hn : n ≤ w.heap.size) (hx : NdB w n x p) (hv : okI 1048576 x.v) (hl : x.l.length ≤ 1099511627776) (hf : x.f.length ≤ 1099511627776) (hk : 0 ≤ x.k) (hk' : x.k ≤ 10) :
    Calls Try.prog 25 #[vN x p] w fun e w' => e = .returned (.bool (formN chI x)) ∧ Below w.heap.size w w' := by
  obtain ⟨k, lo, hi, v, l, f⟩ := x
  simp only at hk hk' hv hl hf
  rcases (by omega : k = 0 ∨ k = 1 ∨ k = 2 ∨ k = 3 ∨ k = 4 ∨ k = 5 ∨ k = 6 ∨ k = 7 ∨ k = 8 ∨ k = 9 ∨ k = 10) with rfl | rfl | rfl | rfl | rfl | rfl | rfl | rfl | rfl | rfl | rfl
  · exact sch_formed0 lo hi v l f p n w hn hx hv hl hf
  · exact sch_formed1 lo hi v l f p n w hn hx hv hl hf
  · exact sch_formed2 lo hi v l f p n w hn hx hv hl hf
  · exact sch_formed3 lo hi v l f p n w hn hx hv hl hf
  · exact sch_formed4 lo hi v l f p n w hn hx hv hl hf
  · exact sch_formed5 lo hi v l f p n w hn hx hv hl hf
  · exact sch_formed6 lo hi v l f p n w hn hx hv hl hf
  · exact sch_formed7 lo hi v l f p n w hn hx hv hl hf
  · exact sch_formed8 lo hi v l f p n w hn hx hv hl hf
  · exact sch_formed9 lo hi v l f p n w hn hx hv hl hf
  · exact sch_formed10 lo hi v l f p n w hn hx hv hl hf
end Go.Proofs.Ytmihoeholcaokaa
