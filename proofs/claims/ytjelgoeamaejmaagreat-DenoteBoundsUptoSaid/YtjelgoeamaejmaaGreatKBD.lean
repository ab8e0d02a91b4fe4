/- The document's form. -/
import Derived.Test.YtjelgoeamaejmaaGreatKAY
namespace Go.Proofs.YtjelgoeamaejmaaGreat
open Go.RowKit

/-- .. in the document's words. -/
noncomputable def formR (ch : It → Int) (x : Nd) : Bool :=
  if x.k = 1 ∨ x.k = 2 ∨ x.k = 3 then decide (x.l.length = 0) && sameN ⟨x.k, x.lo, x.hi, zIt, [], []⟩ x
  else if x.k = 4 then (decide (x.l.length = 0) && valuedN ch x.v) && sameN ⟨x.k, 0, 0, x.v, [], []⟩ x
  else if x.k = 8 then decide (x.l.length = 0) && sameN ⟨x.k, 0, 0, zIt, [], x.f⟩ x
  else if x.k = 6 then decide (x.l.length = 1) && sameN ⟨x.k, x.lo, x.hi, zIt, x.l, []⟩ x
  else if x.k = 9 then decide (x.l.length = 1) && sameN ⟨x.k, x.lo, 0, zIt, x.l, []⟩ x
  else if x.k = 10 then decide (1 ≤ x.l.length) && sameN ⟨x.k, 0, 0, zIt, x.l, []⟩ x
  else if x.k = 7 then sameN ⟨x.k, 0, 0, zIt, x.l, []⟩ x
  else decide (x.l.length = 0) && sameN ⟨x.k, 0, 0, zIt, [], []⟩ x
theorem formN_ref (ch : It → Int) (x : Nd) : formN ch x = formR ch x := by
  obtain ⟨k, lo, hi, v, l, f⟩ := x
  unfold formN formR
  simp only
  repeat' split
  all_goals
    rw [Bool.eq_iff_iff]
    simp only [Bool.and_eq_true, decide_eq_true_eq, sameN_true, Nd.eq_iff, Nd.of, List.length_eq_zero_iff]
    constructor <;> (intro h; grind)


set_option maxRecDepth 100000 in
set_option maxHeartbeats 4000000 in
theorem ref_form0 (lo hi : Int) (v : It) (l : List Int) (f : List Fl) (p : Pl) (n : Nat) (w : World) (hn : n ≤ w.heap.size) (hx : NdB w n (⟨0, lo, hi, v, l, f⟩ : Nd) p) (hv : okI 1048576 v) (hl : l.length ≤ 1099511627776) (_hf : f.length ≤ 1099511627776) :
    Calls Tryz.prog 37 #[vN (⟨0, lo, hi, v, l, f⟩ : Nd) p] w fun e w' => e = .returned (.bool (formN chI (⟨0, lo, hi, v, l, f⟩ : Nd))) ∧ Below w.heap.size w w' := by
  obtain ⟨w1, hw1, b1, b2, S⟩ := nblk2 w 47 (nc (⟨0, lo, hi, v, l, f⟩ : Nd) p) (nc (Nd.of 0) ⟨none, 0, none, 0, none, 0⟩)
  have HN : Hid (∀ W, Below w.heap.size w W → Calls Tryz.prog 64 #[vN (⟨0, 0, 0, zIt, [], []⟩ : Nd) (⟨none, 0, none, 0, none, 0⟩ : Pl), vN (⟨0, lo, hi, v, l, f⟩ : Nd) p] W fun e w' => e = .returned (.bool (sameN (⟨0, 0, 0, zIt, [], []⟩ : Nd) (⟨0, lo, hi, v, l, f⟩ : Nd))) ∧ Below w.heap.size w w') := Lib.hid fun W hW => by
    have h := hx.keep (hW.mono hn)
    have hc := hv.1
    exact (ref_SameNode (⟨0, 0, 0, zIt, [], []⟩ : Nd) (⟨0, lo, hi, v, l, f⟩ : Nd) (⟨none, 0, none, 0, none, 0⟩ : Pl) _ n W (Nat.le_trans hn hW.size) ⟨zIt_at W n, fun h => absurd h (by simp), Nat.zero_le _, fun _ => rfl, RdF.nil, Nat.zero_le _, fun _ => rfl⟩ h (by simp only [zIt, It.count, countL]; omega) (Nat.zero_le _) (Nat.zero_le _)).mono fun e w' he => ⟨he.1, hW.trans (he.2.mono hW.size)⟩
  have HVA : Hid (∀ W, Below w.heap.size w W → Calls Tryz.prog 12 #[vI v p.Av p.cv] W fun e w' => e = .returned (.int .i64 (chI v)) ∧ Below W.heap.size W w') := Lib.hid fun W hW => ref_CheckW v p.Av p.cv n W hv (Nat.le_trans hn hW.size) (hx.v.keep (hW.mono hn))
  have HR : Hid (formN chI (⟨0, lo, hi, v, l, f⟩ : Nd) = (decide (l.length = 0) && sameN (⟨0, 0, 0, zIt, [], []⟩ : Nd) (⟨0, lo, hi, v, l, f⟩ : Nd))) := Lib.hid (by
    rw [formN_ref]; rfl)
  generalize sameN (⟨0, 0, 0, zIt, [], []⟩ : Nd) (⟨0, lo, hi, v, l, f⟩ : Nd) = rs at *
  unfold nc at b1 b2 hw1
  have HB1 := Lib.hid b1
  have HB2 := Lib.hid b2
  obtain ⟨p0, p1, p2, p3, p4, p5, p6, p7, p8⟩ := nblk b1
  have q := nblk b2
  simp only [Nd.of, zIt_k, zIt_n, zIt_s, zIt_l, List.length_nil] at q hw1 HB2 ⊢
  obtain ⟨q0, q1, q2, q3, q4, q5, q6, q7, q8⟩ := q
  have f1 := b2.free 1
  have f2 := b2.free 2
  have f7 := b2.free 7
  have f8 := b2.free 8
  have f3 := b2.free 3
  have f4 := b2.free 4
  have f5 := b2.free 5
  have f6 := b2.free 6
  have HS := Lib.hid S
  have HW1 := Lib.hid hw1
  clear b1 b2 S hn hx hv hw1
  simp only [vN, vI, zIt_k, zIt_n, zIt_s, zIt_l, List.length_nil] at HN HVA ⊢
  generalize formN chI (⟨0, lo, hi, v, l, f⟩ : Nd) = res at *
  go_enter Tryz.func37, Tryz.ntmps37
  generalize l.length = m at *
  rcases m with _ | _ | m
  · go_wp2_with (first
    | (go_at_call 64; refine (HN.out _ ?hb).mono ?_; (case hb => ((repeat (first | refine below_drawn ?_ | refine Below.setCell ?_ (Nat.le_succ _) _)); first | exact HS.out | exact two_below _ _ _ | exact HB4.out | fail)); rintro e w3 ⟨rfl, hb3⟩)
    | (go_at_call 12; refine (HVA.out _ ?hb).mono ?_; (case hb => ((repeat (first | refine below_drawn ?_ | refine Below.setCell ?_ (Nat.le_succ _) _)); first | exact HS.out | exact two_below _ _ _ | exact HB4.out | fail)); rintro e w2 ⟨rfl, hb2⟩; obtain ⟨s0, s1, s2, s3, s4, s5, s6, s7, s8⟩ := nblk (((Blk.fresh w _ _).alloc _).on hb2); obtain ⟨t0, t1, t2, t3, t4, t5, t6, t7, t8⟩ := nblk ((Blk.freshAt (w.alloc _) _ _ (w.heap.size + 1) (by simp)).on hb2); have hb4 := (two_below w _ _).trans (hb2.mono (two_below w _ _).size); have HB4 := Lib.hid hb4; clear hb2 hb4))
    go_ret
    exact ⟨by rw [HR.out]; (first | (simp; done) | rfl), by first | exact hb3 | ((repeat (first | refine below_drawn ?_ | refine Below.setCell ?_ (Nat.le_succ _) _)); first | exact HS.out | exact two_below _ _ _ | exact HB4.out | fail)⟩
  · go_wp2_with (first
    | (go_at_call 64; refine (HN.out _ ?hb).mono ?_; (case hb => ((repeat (first | refine below_drawn ?_ | refine Below.setCell ?_ (Nat.le_succ _) _)); first | exact HS.out | exact two_below _ _ _ | exact HB4.out | fail)); rintro e w3 ⟨rfl, hb3⟩)
    | (go_at_call 12; refine (HVA.out _ ?hb).mono ?_; (case hb => ((repeat (first | refine below_drawn ?_ | refine Below.setCell ?_ (Nat.le_succ _) _)); first | exact HS.out | exact two_below _ _ _ | exact HB4.out | fail)); rintro e w2 ⟨rfl, hb2⟩; obtain ⟨s0, s1, s2, s3, s4, s5, s6, s7, s8⟩ := nblk (((Blk.fresh w _ _).alloc _).on hb2); obtain ⟨t0, t1, t2, t3, t4, t5, t6, t7, t8⟩ := nblk ((Blk.freshAt (w.alloc _) _ _ (w.heap.size + 1) (by simp)).on hb2); have hb4 := (two_below w _ _).trans (hb2.mono (two_below w _ _).size); have HB4 := Lib.hid hb4; clear hb2 hb4))
    go_ret
    exact ⟨by rw [HR.out]; (first | (simp; done) | rfl), by first | exact hb3 | ((repeat (first | refine below_drawn ?_ | refine Below.setCell ?_ (Nat.le_succ _) _)); first | exact HS.out | exact two_below _ _ _ | exact HB4.out | fail)⟩
  · go_wp2_with (first
    | (go_at_call 64; refine (HN.out _ ?hb).mono ?_; (case hb => ((repeat (first | refine below_drawn ?_ | refine Below.setCell ?_ (Nat.le_succ _) _)); first | exact HS.out | exact two_below _ _ _ | exact HB4.out | fail)); rintro e w3 ⟨rfl, hb3⟩)
    | (go_at_call 12; refine (HVA.out _ ?hb).mono ?_; (case hb => ((repeat (first | refine below_drawn ?_ | refine Below.setCell ?_ (Nat.le_succ _) _)); first | exact HS.out | exact two_below _ _ _ | exact HB4.out | fail)); rintro e w2 ⟨rfl, hb2⟩; obtain ⟨s0, s1, s2, s3, s4, s5, s6, s7, s8⟩ := nblk (((Blk.fresh w _ _).alloc _).on hb2); obtain ⟨t0, t1, t2, t3, t4, t5, t6, t7, t8⟩ := nblk ((Blk.freshAt (w.alloc _) _ _ (w.heap.size + 1) (by simp)).on hb2); have hb4 := (two_below w _ _).trans (hb2.mono (two_below w _ _).size); have HB4 := Lib.hid hb4; clear hb2 hb4))
    go_ret
    exact ⟨by rw [HR.out]; (first | (simp; done) | rfl), by first | exact hb3 | ((repeat (first | refine below_drawn ?_ | refine Below.setCell ?_ (Nat.le_succ _) _)); first | exact HS.out | exact two_below _ _ _ | exact HB4.out | fail)⟩


set_option maxRecDepth 100000 in
set_option maxHeartbeats 4000000 in
theorem ref_form1 (lo hi : Int) (v : It) (l : List Int) (f : List Fl) (p : Pl) (n : Nat) (w : World) (hn : n ≤ w.heap.size) (hx : NdB w n (⟨1, lo, hi, v, l, f⟩ : Nd) p) (hv : okI 1048576 v) (hl : l.length ≤ 1099511627776) (_hf : f.length ≤ 1099511627776) :
    Calls Tryz.prog 37 #[vN (⟨1, lo, hi, v, l, f⟩ : Nd) p] w fun e w' => e = .returned (.bool (formN chI (⟨1, lo, hi, v, l, f⟩ : Nd))) ∧ Below w.heap.size w w' := by
  obtain ⟨w1, hw1, b1, b2, S⟩ := nblk2 w 47 (nc (⟨1, lo, hi, v, l, f⟩ : Nd) p) (nc (Nd.of 1) ⟨none, 0, none, 0, none, 0⟩)
  have HN : Hid (∀ W, Below w.heap.size w W → Calls Tryz.prog 64 #[vN (⟨1, lo, hi, zIt, [], []⟩ : Nd) (⟨none, 0, none, 0, none, 0⟩ : Pl), vN (⟨1, lo, hi, v, l, f⟩ : Nd) p] W fun e w' => e = .returned (.bool (sameN (⟨1, lo, hi, zIt, [], []⟩ : Nd) (⟨1, lo, hi, v, l, f⟩ : Nd))) ∧ Below w.heap.size w w') := Lib.hid fun W hW => by
    have h := hx.keep (hW.mono hn)
    have hc := hv.1
    exact (ref_SameNode (⟨1, lo, hi, zIt, [], []⟩ : Nd) (⟨1, lo, hi, v, l, f⟩ : Nd) (⟨none, 0, none, 0, none, 0⟩ : Pl) _ n W (Nat.le_trans hn hW.size) ⟨zIt_at W n, fun h => absurd h (by simp), Nat.zero_le _, fun _ => rfl, RdF.nil, Nat.zero_le _, fun _ => rfl⟩ h (by simp only [zIt, It.count, countL]; omega) (Nat.zero_le _) (Nat.zero_le _)).mono fun e w' he => ⟨he.1, hW.trans (he.2.mono hW.size)⟩
  have HVA : Hid (∀ W, Below w.heap.size w W → Calls Tryz.prog 12 #[vI v p.Av p.cv] W fun e w' => e = .returned (.int .i64 (chI v)) ∧ Below W.heap.size W w') := Lib.hid fun W hW => ref_CheckW v p.Av p.cv n W hv (Nat.le_trans hn hW.size) (hx.v.keep (hW.mono hn))
  have HR : Hid (formN chI (⟨1, lo, hi, v, l, f⟩ : Nd) = (decide (l.length = 0) && sameN (⟨1, lo, hi, zIt, [], []⟩ : Nd) (⟨1, lo, hi, v, l, f⟩ : Nd))) := Lib.hid (by
    rw [formN_ref]; rfl)
  generalize sameN (⟨1, lo, hi, zIt, [], []⟩ : Nd) (⟨1, lo, hi, v, l, f⟩ : Nd) = rs at *
  unfold nc at b1 b2 hw1
  have HB1 := Lib.hid b1
  have HB2 := Lib.hid b2
  obtain ⟨p0, p1, p2, p3, p4, p5, p6, p7, p8⟩ := nblk b1
  have q := nblk b2
  simp only [Nd.of, zIt_k, zIt_n, zIt_s, zIt_l, List.length_nil] at q hw1 HB2 ⊢
  obtain ⟨q0, q1, q2, q3, q4, q5, q6, q7, q8⟩ := q
  have f1 := b2.free 1
  have f2 := b2.free 2
  have f7 := b2.free 7
  have f8 := b2.free 8
  have f3 := b2.free 3
  have f4 := b2.free 4
  have f5 := b2.free 5
  have f6 := b2.free 6
  have HS := Lib.hid S
  have HW1 := Lib.hid hw1
  clear b1 b2 S hn hx hv hw1
  simp only [vN, vI, zIt_k, zIt_n, zIt_s, zIt_l, List.length_nil] at HN HVA ⊢
  generalize formN chI (⟨1, lo, hi, v, l, f⟩ : Nd) = res at *
  go_enter Tryz.func37, Tryz.ntmps37
  generalize l.length = m at *
  rcases m with _ | _ | m
  · go_wp2_with fail
    rw [HW1.out]
    have d1 : w.heap.size ≠ w.heap.size + 1 := by omega
    have d2 : w.heap.size + 1 ≠ w.heap.size := by omega
    go_region
    go_wp2_with (first
    | (go_at_call 64; refine (HN.out _ ?hb).mono ?_; (case hb => ((repeat (first | refine below_drawn ?_ | refine Below.setCell ?_ (Nat.le_succ _) _)); first | exact HS.out | exact two_below _ _ _ | exact HB4.out | fail)); rintro e w3 ⟨rfl, hb3⟩)
    | (go_at_call 12; refine (HVA.out _ ?hb).mono ?_; (case hb => ((repeat (first | refine below_drawn ?_ | refine Below.setCell ?_ (Nat.le_succ _) _)); first | exact HS.out | exact two_below _ _ _ | exact HB4.out | fail)); rintro e w2 ⟨rfl, hb2⟩; obtain ⟨s0, s1, s2, s3, s4, s5, s6, s7, s8⟩ := nblk (((Blk.fresh w _ _).alloc _).on hb2); obtain ⟨t0, t1, t2, t3, t4, t5, t6, t7, t8⟩ := nblk ((Blk.freshAt (w.alloc _) _ _ (w.heap.size + 1) (by simp)).on hb2); have hb4 := (two_below w _ _).trans (hb2.mono (two_below w _ _).size); have HB4 := Lib.hid hb4; clear hb2 hb4))
    go_ret
    exact ⟨by rw [HR.out]; (first | (simp; done) | rfl), by first | exact hb3 | ((repeat (first | refine below_drawn ?_ | refine Below.setCell ?_ (Nat.le_succ _) _)); first | exact HS.out | exact two_below _ _ _ | exact HB4.out | fail)⟩
  · go_wp2_with fail
    rw [HW1.out]
    have d1 : w.heap.size ≠ w.heap.size + 1 := by omega
    have d2 : w.heap.size + 1 ≠ w.heap.size := by omega
    go_region
    go_wp2_with (first
    | (go_at_call 64; refine (HN.out _ ?hb).mono ?_; (case hb => ((repeat (first | refine below_drawn ?_ | refine Below.setCell ?_ (Nat.le_succ _) _)); first | exact HS.out | exact two_below _ _ _ | exact HB4.out | fail)); rintro e w3 ⟨rfl, hb3⟩)
    | (go_at_call 12; refine (HVA.out _ ?hb).mono ?_; (case hb => ((repeat (first | refine below_drawn ?_ | refine Below.setCell ?_ (Nat.le_succ _) _)); first | exact HS.out | exact two_below _ _ _ | exact HB4.out | fail)); rintro e w2 ⟨rfl, hb2⟩; obtain ⟨s0, s1, s2, s3, s4, s5, s6, s7, s8⟩ := nblk (((Blk.fresh w _ _).alloc _).on hb2); obtain ⟨t0, t1, t2, t3, t4, t5, t6, t7, t8⟩ := nblk ((Blk.freshAt (w.alloc _) _ _ (w.heap.size + 1) (by simp)).on hb2); have hb4 := (two_below w _ _).trans (hb2.mono (two_below w _ _).size); have HB4 := Lib.hid hb4; clear hb2 hb4))
    go_ret
    exact ⟨by rw [HR.out]; (first | (simp; done) | rfl), by first | exact hb3 | ((repeat (first | refine below_drawn ?_ | refine Below.setCell ?_ (Nat.le_succ _) _)); first | exact HS.out | exact two_below _ _ _ | exact HB4.out | fail)⟩
  · go_wp2_with fail
    rw [HW1.out]
    have d1 : w.heap.size ≠ w.heap.size + 1 := by omega
    have d2 : w.heap.size + 1 ≠ w.heap.size := by omega
    go_region
    go_wp2_with (first
    | (go_at_call 64; refine (HN.out _ ?hb).mono ?_; (case hb => ((repeat (first | refine below_drawn ?_ | refine Below.setCell ?_ (Nat.le_succ _) _)); first | exact HS.out | exact two_below _ _ _ | exact HB4.out | fail)); rintro e w3 ⟨rfl, hb3⟩)
    | (go_at_call 12; refine (HVA.out _ ?hb).mono ?_; (case hb => ((repeat (first | refine below_drawn ?_ | refine Below.setCell ?_ (Nat.le_succ _) _)); first | exact HS.out | exact two_below _ _ _ | exact HB4.out | fail)); rintro e w2 ⟨rfl, hb2⟩; obtain ⟨s0, s1, s2, s3, s4, s5, s6, s7, s8⟩ := nblk (((Blk.fresh w _ _).alloc _).on hb2); obtain ⟨t0, t1, t2, t3, t4, t5, t6, t7, t8⟩ := nblk ((Blk.freshAt (w.alloc _) _ _ (w.heap.size + 1) (by simp)).on hb2); have hb4 := (two_below w _ _).trans (hb2.mono (two_below w _ _).size); have HB4 := Lib.hid hb4; clear hb2 hb4))
    go_ret
    exact ⟨by rw [HR.out]; (first | (simp; done) | rfl), by first | exact hb3 | ((repeat (first | refine below_drawn ?_ | refine Below.setCell ?_ (Nat.le_succ _) _)); first | exact HS.out | exact two_below _ _ _ | exact HB4.out | fail)⟩


set_option maxRecDepth 100000 in
set_option maxHeartbeats 4000000 in
theorem ref_form2 (lo hi : Int) (v : It) (l : List Int) (f : List Fl) (p : Pl) (n : Nat) (w : World) (hn : n ≤ w.heap.size) (hx : NdB w n (⟨2, lo, hi, v, l, f⟩ : Nd) p) (hv : okI 1048576 v) (hl : l.length ≤ 1099511627776) (_hf : f.length ≤ 1099511627776) :
    Calls Tryz.prog 37 #[vN (⟨2, lo, hi, v, l, f⟩ : Nd) p] w fun e w' => e = .returned (.bool (formN chI (⟨2, lo, hi, v, l, f⟩ : Nd))) ∧ Below w.heap.size w w' := by
  obtain ⟨w1, hw1, b1, b2, S⟩ := nblk2 w 47 (nc (⟨2, lo, hi, v, l, f⟩ : Nd) p) (nc (Nd.of 2) ⟨none, 0, none, 0, none, 0⟩)
  have HN : Hid (∀ W, Below w.heap.size w W → Calls Tryz.prog 64 #[vN (⟨2, lo, hi, zIt, [], []⟩ : Nd) (⟨none, 0, none, 0, none, 0⟩ : Pl), vN (⟨2, lo, hi, v, l, f⟩ : Nd) p] W fun e w' => e = .returned (.bool (sameN (⟨2, lo, hi, zIt, [], []⟩ : Nd) (⟨2, lo, hi, v, l, f⟩ : Nd))) ∧ Below w.heap.size w w') := Lib.hid fun W hW => by
    have h := hx.keep (hW.mono hn)
    have hc := hv.1
    exact (ref_SameNode (⟨2, lo, hi, zIt, [], []⟩ : Nd) (⟨2, lo, hi, v, l, f⟩ : Nd) (⟨none, 0, none, 0, none, 0⟩ : Pl) _ n W (Nat.le_trans hn hW.size) ⟨zIt_at W n, fun h => absurd h (by simp), Nat.zero_le _, fun _ => rfl, RdF.nil, Nat.zero_le _, fun _ => rfl⟩ h (by simp only [zIt, It.count, countL]; omega) (Nat.zero_le _) (Nat.zero_le _)).mono fun e w' he => ⟨he.1, hW.trans (he.2.mono hW.size)⟩
  have HVA : Hid (∀ W, Below w.heap.size w W → Calls Tryz.prog 12 #[vI v p.Av p.cv] W fun e w' => e = .returned (.int .i64 (chI v)) ∧ Below W.heap.size W w') := Lib.hid fun W hW => ref_CheckW v p.Av p.cv n W hv (Nat.le_trans hn hW.size) (hx.v.keep (hW.mono hn))
  have HR : Hid (formN chI (⟨2, lo, hi, v, l, f⟩ : Nd) = (decide (l.length = 0) && sameN (⟨2, lo, hi, zIt, [], []⟩ : Nd) (⟨2, lo, hi, v, l, f⟩ : Nd))) := Lib.hid (by
    rw [formN_ref]; rfl)
  generalize sameN (⟨2, lo, hi, zIt, [], []⟩ : Nd) (⟨2, lo, hi, v, l, f⟩ : Nd) = rs at *
  unfold nc at b1 b2 hw1
  have HB1 := Lib.hid b1
  have HB2 := Lib.hid b2
  obtain ⟨p0, p1, p2, p3, p4, p5, p6, p7, p8⟩ := nblk b1
  have q := nblk b2
  simp only [Nd.of, zIt_k, zIt_n, zIt_s, zIt_l, List.length_nil] at q hw1 HB2 ⊢
  obtain ⟨q0, q1, q2, q3, q4, q5, q6, q7, q8⟩ := q
  have f1 := b2.free 1
  have f2 := b2.free 2
  have f7 := b2.free 7
  have f8 := b2.free 8
  have f3 := b2.free 3
  have f4 := b2.free 4
  have f5 := b2.free 5
  have f6 := b2.free 6
  have HS := Lib.hid S
  have HW1 := Lib.hid hw1
  clear b1 b2 S hn hx hv hw1
  simp only [vN, vI, zIt_k, zIt_n, zIt_s, zIt_l, List.length_nil] at HN HVA ⊢
  generalize formN chI (⟨2, lo, hi, v, l, f⟩ : Nd) = res at *
  go_enter Tryz.func37, Tryz.ntmps37
  generalize l.length = m at *
  rcases m with _ | _ | m
  · go_wp2_with fail
    rw [HW1.out]
    have d1 : w.heap.size ≠ w.heap.size + 1 := by omega
    have d2 : w.heap.size + 1 ≠ w.heap.size := by omega
    go_region
    go_wp2_with (first
    | (go_at_call 64; refine (HN.out _ ?hb).mono ?_; (case hb => ((repeat (first | refine below_drawn ?_ | refine Below.setCell ?_ (Nat.le_succ _) _)); first | exact HS.out | exact two_below _ _ _ | exact HB4.out | fail)); rintro e w3 ⟨rfl, hb3⟩)
    | (go_at_call 12; refine (HVA.out _ ?hb).mono ?_; (case hb => ((repeat (first | refine below_drawn ?_ | refine Below.setCell ?_ (Nat.le_succ _) _)); first | exact HS.out | exact two_below _ _ _ | exact HB4.out | fail)); rintro e w2 ⟨rfl, hb2⟩; obtain ⟨s0, s1, s2, s3, s4, s5, s6, s7, s8⟩ := nblk (((Blk.fresh w _ _).alloc _).on hb2); obtain ⟨t0, t1, t2, t3, t4, t5, t6, t7, t8⟩ := nblk ((Blk.freshAt (w.alloc _) _ _ (w.heap.size + 1) (by simp)).on hb2); have hb4 := (two_below w _ _).trans (hb2.mono (two_below w _ _).size); have HB4 := Lib.hid hb4; clear hb2 hb4))
    go_ret
    exact ⟨by rw [HR.out]; (first | (simp; done) | rfl), by first | exact hb3 | ((repeat (first | refine below_drawn ?_ | refine Below.setCell ?_ (Nat.le_succ _) _)); first | exact HS.out | exact two_below _ _ _ | exact HB4.out | fail)⟩
  · go_wp2_with fail
    rw [HW1.out]
    have d1 : w.heap.size ≠ w.heap.size + 1 := by omega
    have d2 : w.heap.size + 1 ≠ w.heap.size := by omega
    go_region
    go_wp2_with (first
    | (go_at_call 64; refine (HN.out _ ?hb).mono ?_; (case hb => ((repeat (first | refine below_drawn ?_ | refine Below.setCell ?_ (Nat.le_succ _) _)); first | exact HS.out | exact two_below _ _ _ | exact HB4.out | fail)); rintro e w3 ⟨rfl, hb3⟩)
    | (go_at_call 12; refine (HVA.out _ ?hb).mono ?_; (case hb => ((repeat (first | refine below_drawn ?_ | refine Below.setCell ?_ (Nat.le_succ _) _)); first | exact HS.out | exact two_below _ _ _ | exact HB4.out | fail)); rintro e w2 ⟨rfl, hb2⟩; obtain ⟨s0, s1, s2, s3, s4, s5, s6, s7, s8⟩ := nblk (((Blk.fresh w _ _).alloc _).on hb2); obtain ⟨t0, t1, t2, t3, t4, t5, t6, t7, t8⟩ := nblk ((Blk.freshAt (w.alloc _) _ _ (w.heap.size + 1) (by simp)).on hb2); have hb4 := (two_below w _ _).trans (hb2.mono (two_below w _ _).size); have HB4 := Lib.hid hb4; clear hb2 hb4))
    go_ret
    exact ⟨by rw [HR.out]; (first | (simp; done) | rfl), by first | exact hb3 | ((repeat (first | refine below_drawn ?_ | refine Below.setCell ?_ (Nat.le_succ _) _)); first | exact HS.out | exact two_below _ _ _ | exact HB4.out | fail)⟩
  · go_wp2_with fail
    rw [HW1.out]
    have d1 : w.heap.size ≠ w.heap.size + 1 := by omega
    have d2 : w.heap.size + 1 ≠ w.heap.size := by omega
    go_region
    go_wp2_with (first
    | (go_at_call 64; refine (HN.out _ ?hb).mono ?_; (case hb => ((repeat (first | refine below_drawn ?_ | refine Below.setCell ?_ (Nat.le_succ _) _)); first | exact HS.out | exact two_below _ _ _ | exact HB4.out | fail)); rintro e w3 ⟨rfl, hb3⟩)
    | (go_at_call 12; refine (HVA.out _ ?hb).mono ?_; (case hb => ((repeat (first | refine below_drawn ?_ | refine Below.setCell ?_ (Nat.le_succ _) _)); first | exact HS.out | exact two_below _ _ _ | exact HB4.out | fail)); rintro e w2 ⟨rfl, hb2⟩; obtain ⟨s0, s1, s2, s3, s4, s5, s6, s7, s8⟩ := nblk (((Blk.fresh w _ _).alloc _).on hb2); obtain ⟨t0, t1, t2, t3, t4, t5, t6, t7, t8⟩ := nblk ((Blk.freshAt (w.alloc _) _ _ (w.heap.size + 1) (by simp)).on hb2); have hb4 := (two_below w _ _).trans (hb2.mono (two_below w _ _).size); have HB4 := Lib.hid hb4; clear hb2 hb4))
    go_ret
    exact ⟨by rw [HR.out]; (first | (simp; done) | rfl), by first | exact hb3 | ((repeat (first | refine below_drawn ?_ | refine Below.setCell ?_ (Nat.le_succ _) _)); first | exact HS.out | exact two_below _ _ _ | exact HB4.out | fail)⟩


set_option maxRecDepth 100000 in
set_option maxHeartbeats 4000000 in
theorem ref_form3 (lo hi : Int) (v : It) (l : List Int) (f : List Fl) (p : Pl) (n : Nat) (w : World) (hn : n ≤ w.heap.size) (hx : NdB w n (⟨3, lo, hi, v, l, f⟩ : Nd) p) (hv : okI 1048576 v) (hl : l.length ≤ 1099511627776) (_hf : f.length ≤ 1099511627776) :
    Calls Tryz.prog 37 #[vN (⟨3, lo, hi, v, l, f⟩ : Nd) p] w fun e w' => e = .returned (.bool (formN chI (⟨3, lo, hi, v, l, f⟩ : Nd))) ∧ Below w.heap.size w w' := by
  obtain ⟨w1, hw1, b1, b2, S⟩ := nblk2 w 47 (nc (⟨3, lo, hi, v, l, f⟩ : Nd) p) (nc (Nd.of 3) ⟨none, 0, none, 0, none, 0⟩)
  have HN : Hid (∀ W, Below w.heap.size w W → Calls Tryz.prog 64 #[vN (⟨3, lo, hi, zIt, [], []⟩ : Nd) (⟨none, 0, none, 0, none, 0⟩ : Pl), vN (⟨3, lo, hi, v, l, f⟩ : Nd) p] W fun e w' => e = .returned (.bool (sameN (⟨3, lo, hi, zIt, [], []⟩ : Nd) (⟨3, lo, hi, v, l, f⟩ : Nd))) ∧ Below w.heap.size w w') := Lib.hid fun W hW => by
    have h := hx.keep (hW.mono hn)
    have hc := hv.1
    exact (ref_SameNode (⟨3, lo, hi, zIt, [], []⟩ : Nd) (⟨3, lo, hi, v, l, f⟩ : Nd) (⟨none, 0, none, 0, none, 0⟩ : Pl) _ n W (Nat.le_trans hn hW.size) ⟨zIt_at W n, fun h => absurd h (by simp), Nat.zero_le _, fun _ => rfl, RdF.nil, Nat.zero_le _, fun _ => rfl⟩ h (by simp only [zIt, It.count, countL]; omega) (Nat.zero_le _) (Nat.zero_le _)).mono fun e w' he => ⟨he.1, hW.trans (he.2.mono hW.size)⟩
  have HVA : Hid (∀ W, Below w.heap.size w W → Calls Tryz.prog 12 #[vI v p.Av p.cv] W fun e w' => e = .returned (.int .i64 (chI v)) ∧ Below W.heap.size W w') := Lib.hid fun W hW => ref_CheckW v p.Av p.cv n W hv (Nat.le_trans hn hW.size) (hx.v.keep (hW.mono hn))
  have HR : Hid (formN chI (⟨3, lo, hi, v, l, f⟩ : Nd) = (decide (l.length = 0) && sameN (⟨3, lo, hi, zIt, [], []⟩ : Nd) (⟨3, lo, hi, v, l, f⟩ : Nd))) := Lib.hid (by
    rw [formN_ref]; rfl)
  generalize sameN (⟨3, lo, hi, zIt, [], []⟩ : Nd) (⟨3, lo, hi, v, l, f⟩ : Nd) = rs at *
  unfold nc at b1 b2 hw1
  have HB1 := Lib.hid b1
  have HB2 := Lib.hid b2
  obtain ⟨p0, p1, p2, p3, p4, p5, p6, p7, p8⟩ := nblk b1
  have q := nblk b2
  simp only [Nd.of, zIt_k, zIt_n, zIt_s, zIt_l, List.length_nil] at q hw1 HB2 ⊢
  obtain ⟨q0, q1, q2, q3, q4, q5, q6, q7, q8⟩ := q
  have f1 := b2.free 1
  have f2 := b2.free 2
  have f7 := b2.free 7
  have f8 := b2.free 8
  have f3 := b2.free 3
  have f4 := b2.free 4
  have f5 := b2.free 5
  have f6 := b2.free 6
  have HS := Lib.hid S
  have HW1 := Lib.hid hw1
  clear b1 b2 S hn hx hv hw1
  simp only [vN, vI, zIt_k, zIt_n, zIt_s, zIt_l, List.length_nil] at HN HVA ⊢
  generalize formN chI (⟨3, lo, hi, v, l, f⟩ : Nd) = res at *
  go_enter Tryz.func37, Tryz.ntmps37
  generalize l.length = m at *
  rcases m with _ | _ | m
  · go_wp2_with fail
    rw [HW1.out]
    have d1 : w.heap.size ≠ w.heap.size + 1 := by omega
    have d2 : w.heap.size + 1 ≠ w.heap.size := by omega
    go_region
    go_wp2_with (first
    | (go_at_call 64; refine (HN.out _ ?hb).mono ?_; (case hb => ((repeat (first | refine below_drawn ?_ | refine Below.setCell ?_ (Nat.le_succ _) _)); first | exact HS.out | exact two_below _ _ _ | exact HB4.out | fail)); rintro e w3 ⟨rfl, hb3⟩)
    | (go_at_call 12; refine (HVA.out _ ?hb).mono ?_; (case hb => ((repeat (first | refine below_drawn ?_ | refine Below.setCell ?_ (Nat.le_succ _) _)); first | exact HS.out | exact two_below _ _ _ | exact HB4.out | fail)); rintro e w2 ⟨rfl, hb2⟩; obtain ⟨s0, s1, s2, s3, s4, s5, s6, s7, s8⟩ := nblk (((Blk.fresh w _ _).alloc _).on hb2); obtain ⟨t0, t1, t2, t3, t4, t5, t6, t7, t8⟩ := nblk ((Blk.freshAt (w.alloc _) _ _ (w.heap.size + 1) (by simp)).on hb2); have hb4 := (two_below w _ _).trans (hb2.mono (two_below w _ _).size); have HB4 := Lib.hid hb4; clear hb2 hb4))
    go_ret
    exact ⟨by rw [HR.out]; (first | (simp; done) | rfl), by first | exact hb3 | ((repeat (first | refine below_drawn ?_ | refine Below.setCell ?_ (Nat.le_succ _) _)); first | exact HS.out | exact two_below _ _ _ | exact HB4.out | fail)⟩
  · go_wp2_with fail
    rw [HW1.out]
    have d1 : w.heap.size ≠ w.heap.size + 1 := by omega
    have d2 : w.heap.size + 1 ≠ w.heap.size := by omega
    go_region
    go_wp2_with (first
    | (go_at_call 64; refine (HN.out _ ?hb).mono ?_; (case hb => ((repeat (first | refine below_drawn ?_ | refine Below.setCell ?_ (Nat.le_succ _) _)); first | exact HS.out | exact two_below _ _ _ | exact HB4.out | fail)); rintro e w3 ⟨rfl, hb3⟩)
    | (go_at_call 12; refine (HVA.out _ ?hb).mono ?_; (case hb => ((repeat (first | refine below_drawn ?_ | refine Below.setCell ?_ (Nat.le_succ _) _)); first | exact HS.out | exact two_below _ _ _ | exact HB4.out | fail)); rintro e w2 ⟨rfl, hb2⟩; obtain ⟨s0, s1, s2, s3, s4, s5, s6, s7, s8⟩ := nblk (((Blk.fresh w _ _).alloc _).on hb2); obtain ⟨t0, t1, t2, t3, t4, t5, t6, t7, t8⟩ := nblk ((Blk.freshAt (w.alloc _) _ _ (w.heap.size + 1) (by simp)).on hb2); have hb4 := (two_below w _ _).trans (hb2.mono (two_below w _ _).size); have HB4 := Lib.hid hb4; clear hb2 hb4))
    go_ret
    exact ⟨by rw [HR.out]; (first | (simp; done) | rfl), by first | exact hb3 | ((repeat (first | refine below_drawn ?_ | refine Below.setCell ?_ (Nat.le_succ _) _)); first | exact HS.out | exact two_below _ _ _ | exact HB4.out | fail)⟩
  · go_wp2_with fail
    rw [HW1.out]
    have d1 : w.heap.size ≠ w.heap.size + 1 := by omega
    have d2 : w.heap.size + 1 ≠ w.heap.size := by omega
    go_region
    go_wp2_with (first
    | (go_at_call 64; refine (HN.out _ ?hb).mono ?_; (case hb => ((repeat (first | refine below_drawn ?_ | refine Below.setCell ?_ (Nat.le_succ _) _)); first | exact HS.out | exact two_below _ _ _ | exact HB4.out | fail)); rintro e w3 ⟨rfl, hb3⟩)
    | (go_at_call 12; refine (HVA.out _ ?hb).mono ?_; (case hb => ((repeat (first | refine below_drawn ?_ | refine Below.setCell ?_ (Nat.le_succ _) _)); first | exact HS.out | exact two_below _ _ _ | exact HB4.out | fail)); rintro e w2 ⟨rfl, hb2⟩; obtain ⟨s0, s1, s2, s3, s4, s5, s6, s7, s8⟩ := nblk (((Blk.fresh w _ _).alloc _).on hb2); obtain ⟨t0, t1, t2, t3, t4, t5, t6, t7, t8⟩ := nblk ((Blk.freshAt (w.alloc _) _ _ (w.heap.size + 1) (by simp)).on hb2); have hb4 := (two_below w _ _).trans (hb2.mono (two_below w _ _).size); have HB4 := Lib.hid hb4; clear hb2 hb4))
    go_ret
    exact ⟨by rw [HR.out]; (first | (simp; done) | rfl), by first | exact hb3 | ((repeat (first | refine below_drawn ?_ | refine Below.setCell ?_ (Nat.le_succ _) _)); first | exact HS.out | exact two_below _ _ _ | exact HB4.out | fail)⟩


set_option maxRecDepth 100000 in
set_option maxHeartbeats 4000000 in
theorem ref_form4 (lo hi : Int) (v : It) (l : List Int) (f : List Fl) (p : Pl) (n : Nat) (w : World) (hn : n ≤ w.heap.size) (hx : NdB w n (⟨4, lo, hi, v, l, f⟩ : Nd) p) (hv : okI 1048576 v) (hl : l.length ≤ 1099511627776) (_hf : f.length ≤ 1099511627776) :
    Calls Tryz.prog 37 #[vN (⟨4, lo, hi, v, l, f⟩ : Nd) p] w fun e w' => e = .returned (.bool (formN chI (⟨4, lo, hi, v, l, f⟩ : Nd))) ∧ Below w.heap.size w w' := by
  obtain ⟨w1, hw1, b1, b2, S⟩ := nblk2 w 47 (nc (⟨4, lo, hi, v, l, f⟩ : Nd) p) (nc (Nd.of 4) ⟨none, 0, none, 0, none, 0⟩)
  have HN : Hid (∀ W, Below w.heap.size w W → Calls Tryz.prog 64 #[vN (⟨4, 0, 0, v, [], []⟩ : Nd) (⟨p.Av, p.cv, none, 0, none, 0⟩ : Pl), vN (⟨4, lo, hi, v, l, f⟩ : Nd) p] W fun e w' => e = .returned (.bool (sameN (⟨4, 0, 0, v, [], []⟩ : Nd) (⟨4, lo, hi, v, l, f⟩ : Nd))) ∧ Below w.heap.size w w') := Lib.hid fun W hW => by
    have h := hx.keep (hW.mono hn)
    have hc := hv.1
    exact (ref_SameNode (⟨4, 0, 0, v, [], []⟩ : Nd) (⟨4, lo, hi, v, l, f⟩ : Nd) (⟨p.Av, p.cv, none, 0, none, 0⟩ : Pl) _ n W (Nat.le_trans hn hW.size) ⟨h.v, fun h => absurd h (by simp), Nat.zero_le _, fun _ => rfl, RdF.nil, Nat.zero_le _, fun _ => rfl⟩ h (by simp only; omega) (Nat.zero_le _) (Nat.zero_le _)).mono fun e w' he => ⟨he.1, hW.trans (he.2.mono hW.size)⟩
  have HVA : Hid (∀ W, Below w.heap.size w W → Calls Tryz.prog 12 #[vI v p.Av p.cv] W fun e w' => e = .returned (.int .i64 (chI v)) ∧ Below W.heap.size W w') := Lib.hid fun W hW => ref_CheckW v p.Av p.cv n W hv (Nat.le_trans hn hW.size) (hx.v.keep (hW.mono hn))
  have HR : Hid (formN chI (⟨4, lo, hi, v, l, f⟩ : Nd) = ((decide (l.length = 0) && valuedN chI v) && sameN (⟨4, 0, 0, v, [], []⟩ : Nd) (⟨4, lo, hi, v, l, f⟩ : Nd))) := Lib.hid (by
    rw [formN_ref]; rfl)
  generalize sameN (⟨4, 0, 0, v, [], []⟩ : Nd) (⟨4, lo, hi, v, l, f⟩ : Nd) = rs at *
  unfold nc at b1 b2 hw1
  have HB1 := Lib.hid b1
  have HB2 := Lib.hid b2
  obtain ⟨p0, p1, p2, p3, p4, p5, p6, p7, p8⟩ := nblk b1
  have q := nblk b2
  simp only [Nd.of, zIt_k, zIt_n, zIt_s, zIt_l, List.length_nil] at q hw1 HB2 ⊢
  obtain ⟨q0, q1, q2, q3, q4, q5, q6, q7, q8⟩ := q
  have f1 := b2.free 1
  have f2 := b2.free 2
  have f7 := b2.free 7
  have f8 := b2.free 8
  have f3 := b2.free 3
  have f4 := b2.free 4
  have f5 := b2.free 5
  have f6 := b2.free 6
  have HS := Lib.hid S
  have HW1 := Lib.hid hw1
  clear b1 b2 S hn hx hv hw1
  simp only [vN, vI, List.length_nil] at HN HVA ⊢
  generalize formN chI (⟨4, lo, hi, v, l, f⟩ : Nd) = res at *
  go_enter Tryz.func37, Tryz.ntmps37
  unfold valuedN at HR
  generalize v.k = kk at *
  generalize chI v = c at *
  generalize l.length = m at *
  rcases m with _ | m
  · rcases (by omega : kk = 0 ∨ kk = 1 ∨ kk = 2 ∨ kk = 3 ∨ kk = 7 ∨ (kk ≠ 0 ∧ kk ≠ 1 ∧ kk ≠ 2 ∧ kk ≠ 3 ∧ kk ≠ 7)) with rfl | rfl | rfl | rfl | rfl | ⟨z0, z1, z2, z3, z7⟩
    · by_cases hc : c = 0
      · subst hc
        go_wp2_with (first
    | (go_at_call 64; refine (HN.out _ ?hb).mono ?_; (case hb => ((repeat (first | refine below_drawn ?_ | refine Below.setCell ?_ (Nat.le_succ _) _)); first | exact HS.out | exact two_below _ _ _ | exact HB4.out | fail)); rintro e w3 ⟨rfl, hb3⟩)
    | (go_at_call 12; refine (HVA.out _ ?hb).mono ?_; (case hb => ((repeat (first | refine below_drawn ?_ | refine Below.setCell ?_ (Nat.le_succ _) _)); first | exact HS.out | exact two_below _ _ _ | exact HB4.out | fail)); rintro e w2 ⟨rfl, hb2⟩; obtain ⟨s0, s1, s2, s3, s4, s5, s6, s7, s8⟩ := nblk (((Blk.fresh w _ _).alloc _).on hb2); obtain ⟨t0, t1, t2, t3, t4, t5, t6, t7, t8⟩ := nblk ((Blk.freshAt (w.alloc _) _ _ (w.heap.size + 1) (by simp)).on hb2); have hb4 := (two_below w _ _).trans (hb2.mono (two_below w _ _).size); have HB4 := Lib.hid hb4; clear hb2 hb4))
        go_ret
        exact ⟨by rw [HR.out]; (first | (simp; done) | rfl), by first | exact hb3 | ((repeat (first | refine below_drawn ?_ | refine Below.setCell ?_ (Nat.le_succ _) _)); first | exact HS.out | exact two_below _ _ _ | exact HB4.out | fail)⟩
      · have e1 : (c == 0) = false := by simpa using hc
        go_wp2_with (first
    | (go_at_call 64; refine (HN.out _ ?hb).mono ?_; (case hb => ((repeat (first | refine below_drawn ?_ | refine Below.setCell ?_ (Nat.le_succ _) _)); first | exact HS.out | exact two_below _ _ _ | exact HB4.out | fail)); rintro e w3 ⟨rfl, hb3⟩)
    | (go_at_call 12; refine (HVA.out _ ?hb).mono ?_; (case hb => ((repeat (first | refine below_drawn ?_ | refine Below.setCell ?_ (Nat.le_succ _) _)); first | exact HS.out | exact two_below _ _ _ | exact HB4.out | fail)); rintro e w2 ⟨rfl, hb2⟩; obtain ⟨s0, s1, s2, s3, s4, s5, s6, s7, s8⟩ := nblk (((Blk.fresh w _ _).alloc _).on hb2); obtain ⟨t0, t1, t2, t3, t4, t5, t6, t7, t8⟩ := nblk ((Blk.freshAt (w.alloc _) _ _ (w.heap.size + 1) (by simp)).on hb2); have hb4 := (two_below w _ _).trans (hb2.mono (two_below w _ _).size); have HB4 := Lib.hid hb4; clear hb2 hb4))
        go_ret
        exact ⟨by rw [HR.out]; (first | (simp [hc]; done) | rfl), by first | exact hb3 | ((repeat (first | refine below_drawn ?_ | refine Below.setCell ?_ (Nat.le_succ _) _)); first | exact HS.out | exact two_below _ _ _ | exact HB4.out | fail)⟩
    · by_cases hc : c = 0
      · subst hc
        go_wp2_with (first
    | (go_at_call 64; refine (HN.out _ ?hb).mono ?_; (case hb => ((repeat (first | refine below_drawn ?_ | refine Below.setCell ?_ (Nat.le_succ _) _)); first | exact HS.out | exact two_below _ _ _ | exact HB4.out | fail)); rintro e w3 ⟨rfl, hb3⟩)
    | (go_at_call 12; refine (HVA.out _ ?hb).mono ?_; (case hb => ((repeat (first | refine below_drawn ?_ | refine Below.setCell ?_ (Nat.le_succ _) _)); first | exact HS.out | exact two_below _ _ _ | exact HB4.out | fail)); rintro e w2 ⟨rfl, hb2⟩; obtain ⟨s0, s1, s2, s3, s4, s5, s6, s7, s8⟩ := nblk (((Blk.fresh w _ _).alloc _).on hb2); obtain ⟨t0, t1, t2, t3, t4, t5, t6, t7, t8⟩ := nblk ((Blk.freshAt (w.alloc _) _ _ (w.heap.size + 1) (by simp)).on hb2); have hb4 := (two_below w _ _).trans (hb2.mono (two_below w _ _).size); have HB4 := Lib.hid hb4; clear hb2 hb4))
        go_ret
        exact ⟨by rw [HR.out]; (first | (simp; done) | rfl), by first | exact hb3 | ((repeat (first | refine below_drawn ?_ | refine Below.setCell ?_ (Nat.le_succ _) _)); first | exact HS.out | exact two_below _ _ _ | exact HB4.out | fail)⟩
      · have e1 : (c == 0) = false := by simpa using hc
        go_wp2_with (first
    | (go_at_call 64; refine (HN.out _ ?hb).mono ?_; (case hb => ((repeat (first | refine below_drawn ?_ | refine Below.setCell ?_ (Nat.le_succ _) _)); first | exact HS.out | exact two_below _ _ _ | exact HB4.out | fail)); rintro e w3 ⟨rfl, hb3⟩)
    | (go_at_call 12; refine (HVA.out _ ?hb).mono ?_; (case hb => ((repeat (first | refine below_drawn ?_ | refine Below.setCell ?_ (Nat.le_succ _) _)); first | exact HS.out | exact two_below _ _ _ | exact HB4.out | fail)); rintro e w2 ⟨rfl, hb2⟩; obtain ⟨s0, s1, s2, s3, s4, s5, s6, s7, s8⟩ := nblk (((Blk.fresh w _ _).alloc _).on hb2); obtain ⟨t0, t1, t2, t3, t4, t5, t6, t7, t8⟩ := nblk ((Blk.freshAt (w.alloc _) _ _ (w.heap.size + 1) (by simp)).on hb2); have hb4 := (two_below w _ _).trans (hb2.mono (two_below w _ _).size); have HB4 := Lib.hid hb4; clear hb2 hb4))
        go_ret
        exact ⟨by rw [HR.out]; (first | (simp [hc]; done) | rfl), by first | exact hb3 | ((repeat (first | refine below_drawn ?_ | refine Below.setCell ?_ (Nat.le_succ _) _)); first | exact HS.out | exact two_below _ _ _ | exact HB4.out | fail)⟩
    · by_cases hc : c = 0
      · subst hc
        go_wp2_with (first
    | (go_at_call 64; refine (HN.out _ ?hb).mono ?_; (case hb => ((repeat (first | refine below_drawn ?_ | refine Below.setCell ?_ (Nat.le_succ _) _)); first | exact HS.out | exact two_below _ _ _ | exact HB4.out | fail)); rintro e w3 ⟨rfl, hb3⟩)
    | (go_at_call 12; refine (HVA.out _ ?hb).mono ?_; (case hb => ((repeat (first | refine below_drawn ?_ | refine Below.setCell ?_ (Nat.le_succ _) _)); first | exact HS.out | exact two_below _ _ _ | exact HB4.out | fail)); rintro e w2 ⟨rfl, hb2⟩; obtain ⟨s0, s1, s2, s3, s4, s5, s6, s7, s8⟩ := nblk (((Blk.fresh w _ _).alloc _).on hb2); obtain ⟨t0, t1, t2, t3, t4, t5, t6, t7, t8⟩ := nblk ((Blk.freshAt (w.alloc _) _ _ (w.heap.size + 1) (by simp)).on hb2); have hb4 := (two_below w _ _).trans (hb2.mono (two_below w _ _).size); have HB4 := Lib.hid hb4; clear hb2 hb4))
        go_ret
        exact ⟨by rw [HR.out]; (first | (simp; done) | rfl), by first | exact hb3 | ((repeat (first | refine below_drawn ?_ | refine Below.setCell ?_ (Nat.le_succ _) _)); first | exact HS.out | exact two_below _ _ _ | exact HB4.out | fail)⟩
      · have e1 : (c == 0) = false := by simpa using hc
        go_wp2_with (first
    | (go_at_call 64; refine (HN.out _ ?hb).mono ?_; (case hb => ((repeat (first | refine below_drawn ?_ | refine Below.setCell ?_ (Nat.le_succ _) _)); first | exact HS.out | exact two_below _ _ _ | exact HB4.out | fail)); rintro e w3 ⟨rfl, hb3⟩)
    | (go_at_call 12; refine (HVA.out _ ?hb).mono ?_; (case hb => ((repeat (first | refine below_drawn ?_ | refine Below.setCell ?_ (Nat.le_succ _) _)); first | exact HS.out | exact two_below _ _ _ | exact HB4.out | fail)); rintro e w2 ⟨rfl, hb2⟩; obtain ⟨s0, s1, s2, s3, s4, s5, s6, s7, s8⟩ := nblk (((Blk.fresh w _ _).alloc _).on hb2); obtain ⟨t0, t1, t2, t3, t4, t5, t6, t7, t8⟩ := nblk ((Blk.freshAt (w.alloc _) _ _ (w.heap.size + 1) (by simp)).on hb2); have hb4 := (two_below w _ _).trans (hb2.mono (two_below w _ _).size); have HB4 := Lib.hid hb4; clear hb2 hb4))
        go_ret
        exact ⟨by rw [HR.out]; (first | (simp [hc]; done) | rfl), by first | exact hb3 | ((repeat (first | refine below_drawn ?_ | refine Below.setCell ?_ (Nat.le_succ _) _)); first | exact HS.out | exact two_below _ _ _ | exact HB4.out | fail)⟩
    · by_cases hc : c = 0
      · subst hc
        go_wp2_with (first
    | (go_at_call 64; refine (HN.out _ ?hb).mono ?_; (case hb => ((repeat (first | refine below_drawn ?_ | refine Below.setCell ?_ (Nat.le_succ _) _)); first | exact HS.out | exact two_below _ _ _ | exact HB4.out | fail)); rintro e w3 ⟨rfl, hb3⟩)
    | (go_at_call 12; refine (HVA.out _ ?hb).mono ?_; (case hb => ((repeat (first | refine below_drawn ?_ | refine Below.setCell ?_ (Nat.le_succ _) _)); first | exact HS.out | exact two_below _ _ _ | exact HB4.out | fail)); rintro e w2 ⟨rfl, hb2⟩; obtain ⟨s0, s1, s2, s3, s4, s5, s6, s7, s8⟩ := nblk (((Blk.fresh w _ _).alloc _).on hb2); obtain ⟨t0, t1, t2, t3, t4, t5, t6, t7, t8⟩ := nblk ((Blk.freshAt (w.alloc _) _ _ (w.heap.size + 1) (by simp)).on hb2); have hb4 := (two_below w _ _).trans (hb2.mono (two_below w _ _).size); have HB4 := Lib.hid hb4; clear hb2 hb4))
        go_ret
        exact ⟨by rw [HR.out]; (first | (simp; done) | rfl), by first | exact hb3 | ((repeat (first | refine below_drawn ?_ | refine Below.setCell ?_ (Nat.le_succ _) _)); first | exact HS.out | exact two_below _ _ _ | exact HB4.out | fail)⟩
      · have e1 : (c == 0) = false := by simpa using hc
        go_wp2_with (first
    | (go_at_call 64; refine (HN.out _ ?hb).mono ?_; (case hb => ((repeat (first | refine below_drawn ?_ | refine Below.setCell ?_ (Nat.le_succ _) _)); first | exact HS.out | exact two_below _ _ _ | exact HB4.out | fail)); rintro e w3 ⟨rfl, hb3⟩)
    | (go_at_call 12; refine (HVA.out _ ?hb).mono ?_; (case hb => ((repeat (first | refine below_drawn ?_ | refine Below.setCell ?_ (Nat.le_succ _) _)); first | exact HS.out | exact two_below _ _ _ | exact HB4.out | fail)); rintro e w2 ⟨rfl, hb2⟩; obtain ⟨s0, s1, s2, s3, s4, s5, s6, s7, s8⟩ := nblk (((Blk.fresh w _ _).alloc _).on hb2); obtain ⟨t0, t1, t2, t3, t4, t5, t6, t7, t8⟩ := nblk ((Blk.freshAt (w.alloc _) _ _ (w.heap.size + 1) (by simp)).on hb2); have hb4 := (two_below w _ _).trans (hb2.mono (two_below w _ _).size); have HB4 := Lib.hid hb4; clear hb2 hb4))
        go_ret
        exact ⟨by rw [HR.out]; (first | (simp [hc]; done) | rfl), by first | exact hb3 | ((repeat (first | refine below_drawn ?_ | refine Below.setCell ?_ (Nat.le_succ _) _)); first | exact HS.out | exact two_below _ _ _ | exact HB4.out | fail)⟩
    · by_cases hc : c = 0
      · subst hc
        go_wp2_with (first
    | (go_at_call 64; refine (HN.out _ ?hb).mono ?_; (case hb => ((repeat (first | refine below_drawn ?_ | refine Below.setCell ?_ (Nat.le_succ _) _)); first | exact HS.out | exact two_below _ _ _ | exact HB4.out | fail)); rintro e w3 ⟨rfl, hb3⟩)
    | (go_at_call 12; refine (HVA.out _ ?hb).mono ?_; (case hb => ((repeat (first | refine below_drawn ?_ | refine Below.setCell ?_ (Nat.le_succ _) _)); first | exact HS.out | exact two_below _ _ _ | exact HB4.out | fail)); rintro e w2 ⟨rfl, hb2⟩; obtain ⟨s0, s1, s2, s3, s4, s5, s6, s7, s8⟩ := nblk (((Blk.fresh w _ _).alloc _).on hb2); obtain ⟨t0, t1, t2, t3, t4, t5, t6, t7, t8⟩ := nblk ((Blk.freshAt (w.alloc _) _ _ (w.heap.size + 1) (by simp)).on hb2); have hb4 := (two_below w _ _).trans (hb2.mono (two_below w _ _).size); have HB4 := Lib.hid hb4; clear hb2 hb4))
        go_ret
        exact ⟨by rw [HR.out]; (first | (simp; done) | rfl), by first | exact hb3 | ((repeat (first | refine below_drawn ?_ | refine Below.setCell ?_ (Nat.le_succ _) _)); first | exact HS.out | exact two_below _ _ _ | exact HB4.out | fail)⟩
      · have e1 : (c == 0) = false := by simpa using hc
        go_wp2_with (first
    | (go_at_call 64; refine (HN.out _ ?hb).mono ?_; (case hb => ((repeat (first | refine below_drawn ?_ | refine Below.setCell ?_ (Nat.le_succ _) _)); first | exact HS.out | exact two_below _ _ _ | exact HB4.out | fail)); rintro e w3 ⟨rfl, hb3⟩)
    | (go_at_call 12; refine (HVA.out _ ?hb).mono ?_; (case hb => ((repeat (first | refine below_drawn ?_ | refine Below.setCell ?_ (Nat.le_succ _) _)); first | exact HS.out | exact two_below _ _ _ | exact HB4.out | fail)); rintro e w2 ⟨rfl, hb2⟩; obtain ⟨s0, s1, s2, s3, s4, s5, s6, s7, s8⟩ := nblk (((Blk.fresh w _ _).alloc _).on hb2); obtain ⟨t0, t1, t2, t3, t4, t5, t6, t7, t8⟩ := nblk ((Blk.freshAt (w.alloc _) _ _ (w.heap.size + 1) (by simp)).on hb2); have hb4 := (two_below w _ _).trans (hb2.mono (two_below w _ _).size); have HB4 := Lib.hid hb4; clear hb2 hb4))
        go_ret
        exact ⟨by rw [HR.out]; (first | (simp [hc]; done) | rfl), by first | exact hb3 | ((repeat (first | refine below_drawn ?_ | refine Below.setCell ?_ (Nat.le_succ _) _)); first | exact HS.out | exact two_below _ _ _ | exact HB4.out | fail)⟩
    · have e0 : (kk == 0) = false := by simpa using z0
      have e1 : (kk == 1) = false := by simpa using z1
      have e2 : (kk == 2) = false := by simpa using z2
      have e3 : (kk == 3) = false := by simpa using z3
      have e7 : (kk == 7) = false := by simpa using z7
      have HZ : Hid (kk ≠ 0 ∧ kk ≠ 1 ∧ kk ≠ 2 ∧ kk ≠ 3 ∧ kk ≠ 7) := Lib.hid ⟨z0, z1, z2, z3, z7⟩
      clear z0 z1 z2 z3 z7
      go_wp2_with (first
    | (go_at_call 64; refine (HN.out _ ?hb).mono ?_; (case hb => ((repeat (first | refine below_drawn ?_ | refine Below.setCell ?_ (Nat.le_succ _) _)); first | exact HS.out | exact two_below _ _ _ | exact HB4.out | fail)); rintro e w3 ⟨rfl, hb3⟩)
    | (go_at_call 12; refine (HVA.out _ ?hb).mono ?_; (case hb => ((repeat (first | refine below_drawn ?_ | refine Below.setCell ?_ (Nat.le_succ _) _)); first | exact HS.out | exact two_below _ _ _ | exact HB4.out | fail)); rintro e w2 ⟨rfl, hb2⟩; obtain ⟨s0, s1, s2, s3, s4, s5, s6, s7, s8⟩ := nblk (((Blk.fresh w _ _).alloc _).on hb2); obtain ⟨t0, t1, t2, t3, t4, t5, t6, t7, t8⟩ := nblk ((Blk.freshAt (w.alloc _) _ _ (w.heap.size + 1) (by simp)).on hb2); have hb4 := (two_below w _ _).trans (hb2.mono (two_below w _ _).size); have HB4 := Lib.hid hb4; clear hb2 hb4))
      go_ret
      exact ⟨by rw [HR.out]; (first | (simp [HZ.out]; done) | rfl), by first | exact hb3 | ((repeat (first | refine below_drawn ?_ | refine Below.setCell ?_ (Nat.le_succ _) _)); first | exact HS.out | exact two_below _ _ _ | exact HB4.out | fail)⟩
  · go_wp2_with (first
    | (go_at_call 64; refine (HN.out _ ?hb).mono ?_; (case hb => ((repeat (first | refine below_drawn ?_ | refine Below.setCell ?_ (Nat.le_succ _) _)); first | exact HS.out | exact two_below _ _ _ | exact HB4.out | fail)); rintro e w3 ⟨rfl, hb3⟩)
    | (go_at_call 12; refine (HVA.out _ ?hb).mono ?_; (case hb => ((repeat (first | refine below_drawn ?_ | refine Below.setCell ?_ (Nat.le_succ _) _)); first | exact HS.out | exact two_below _ _ _ | exact HB4.out | fail)); rintro e w2 ⟨rfl, hb2⟩; obtain ⟨s0, s1, s2, s3, s4, s5, s6, s7, s8⟩ := nblk (((Blk.fresh w _ _).alloc _).on hb2); obtain ⟨t0, t1, t2, t3, t4, t5, t6, t7, t8⟩ := nblk ((Blk.freshAt (w.alloc _) _ _ (w.heap.size + 1) (by simp)).on hb2); have hb4 := (two_below w _ _).trans (hb2.mono (two_below w _ _).size); have HB4 := Lib.hid hb4; clear hb2 hb4))
    go_ret
    exact ⟨by rw [HR.out]; (first | (simp; done) | rfl), by first | exact hb3 | ((repeat (first | refine below_drawn ?_ | refine Below.setCell ?_ (Nat.le_succ _) _)); first | exact HS.out | exact two_below _ _ _ | exact HB4.out | fail)⟩

set_option maxRecDepth 100000 in
set_option maxHeartbeats 4000000 in
theorem ref_form5 (lo hi : Int) (v : It) (l : List Int) (f : List Fl) (p : Pl) (n : Nat) (w : World) (hn : n ≤ w.heap.size) (hx : NdB w n (⟨5, lo, hi, v, l, f⟩ : Nd) p) (hv : okI 1048576 v) (hl : l.length ≤ 1099511627776) (_hf : f.length ≤ 1099511627776) :
    Calls Tryz.prog 37 #[vN (⟨5, lo, hi, v, l, f⟩ : Nd) p] w fun e w' => e = .returned (.bool (formN chI (⟨5, lo, hi, v, l, f⟩ : Nd))) ∧ Below w.heap.size w w' := by
  obtain ⟨w1, hw1, b1, b2, S⟩ := nblk2 w 47 (nc (⟨5, lo, hi, v, l, f⟩ : Nd) p) (nc (Nd.of 5) ⟨none, 0, none, 0, none, 0⟩)
  have HN : Hid (∀ W, Below w.heap.size w W → Calls Tryz.prog 64 #[vN (⟨5, 0, 0, zIt, [], []⟩ : Nd) (⟨none, 0, none, 0, none, 0⟩ : Pl), vN (⟨5, lo, hi, v, l, f⟩ : Nd) p] W fun e w' => e = .returned (.bool (sameN (⟨5, 0, 0, zIt, [], []⟩ : Nd) (⟨5, lo, hi, v, l, f⟩ : Nd))) ∧ Below w.heap.size w w') := Lib.hid fun W hW => by
    have h := hx.keep (hW.mono hn)
    have hc := hv.1
    exact (ref_SameNode (⟨5, 0, 0, zIt, [], []⟩ : Nd) (⟨5, lo, hi, v, l, f⟩ : Nd) (⟨none, 0, none, 0, none, 0⟩ : Pl) _ n W (Nat.le_trans hn hW.size) ⟨zIt_at W n, fun h => absurd h (by simp), Nat.zero_le _, fun _ => rfl, RdF.nil, Nat.zero_le _, fun _ => rfl⟩ h (by simp only [zIt, It.count, countL]; omega) (Nat.zero_le _) (Nat.zero_le _)).mono fun e w' he => ⟨he.1, hW.trans (he.2.mono hW.size)⟩
  have HVA : Hid (∀ W, Below w.heap.size w W → Calls Tryz.prog 12 #[vI v p.Av p.cv] W fun e w' => e = .returned (.int .i64 (chI v)) ∧ Below W.heap.size W w') := Lib.hid fun W hW => ref_CheckW v p.Av p.cv n W hv (Nat.le_trans hn hW.size) (hx.v.keep (hW.mono hn))
  have HR : Hid (formN chI (⟨5, lo, hi, v, l, f⟩ : Nd) = (decide (l.length = 0) && sameN (⟨5, 0, 0, zIt, [], []⟩ : Nd) (⟨5, lo, hi, v, l, f⟩ : Nd))) := Lib.hid (by
    rw [formN_ref]; rfl)
  generalize sameN (⟨5, 0, 0, zIt, [], []⟩ : Nd) (⟨5, lo, hi, v, l, f⟩ : Nd) = rs at *
  unfold nc at b1 b2 hw1
  have HB1 := Lib.hid b1
  have HB2 := Lib.hid b2
  obtain ⟨p0, p1, p2, p3, p4, p5, p6, p7, p8⟩ := nblk b1
  have q := nblk b2
  simp only [Nd.of, zIt_k, zIt_n, zIt_s, zIt_l, List.length_nil] at q hw1 HB2 ⊢
  obtain ⟨q0, q1, q2, q3, q4, q5, q6, q7, q8⟩ := q
  have f1 := b2.free 1
  have f2 := b2.free 2
  have f7 := b2.free 7
  have f8 := b2.free 8
  have f3 := b2.free 3
  have f4 := b2.free 4
  have f5 := b2.free 5
  have f6 := b2.free 6
  have HS := Lib.hid S
  have HW1 := Lib.hid hw1
  clear b1 b2 S hn hx hv hw1
  simp only [vN, vI, zIt_k, zIt_n, zIt_s, zIt_l, List.length_nil] at HN HVA ⊢
  generalize formN chI (⟨5, lo, hi, v, l, f⟩ : Nd) = res at *
  go_enter Tryz.func37, Tryz.ntmps37
  generalize l.length = m at *
  rcases m with _ | _ | m
  · go_wp2_with (first
    | (go_at_call 64; refine (HN.out _ ?hb).mono ?_; (case hb => ((repeat (first | refine below_drawn ?_ | refine Below.setCell ?_ (Nat.le_succ _) _)); first | exact HS.out | exact two_below _ _ _ | exact HB4.out | fail)); rintro e w3 ⟨rfl, hb3⟩)
    | (go_at_call 12; refine (HVA.out _ ?hb).mono ?_; (case hb => ((repeat (first | refine below_drawn ?_ | refine Below.setCell ?_ (Nat.le_succ _) _)); first | exact HS.out | exact two_below _ _ _ | exact HB4.out | fail)); rintro e w2 ⟨rfl, hb2⟩; obtain ⟨s0, s1, s2, s3, s4, s5, s6, s7, s8⟩ := nblk (((Blk.fresh w _ _).alloc _).on hb2); obtain ⟨t0, t1, t2, t3, t4, t5, t6, t7, t8⟩ := nblk ((Blk.freshAt (w.alloc _) _ _ (w.heap.size + 1) (by simp)).on hb2); have hb4 := (two_below w _ _).trans (hb2.mono (two_below w _ _).size); have HB4 := Lib.hid hb4; clear hb2 hb4))
    go_ret
    exact ⟨by rw [HR.out]; (first | (simp; done) | rfl), by first | exact hb3 | ((repeat (first | refine below_drawn ?_ | refine Below.setCell ?_ (Nat.le_succ _) _)); first | exact HS.out | exact two_below _ _ _ | exact HB4.out | fail)⟩
  · go_wp2_with (first
    | (go_at_call 64; refine (HN.out _ ?hb).mono ?_; (case hb => ((repeat (first | refine below_drawn ?_ | refine Below.setCell ?_ (Nat.le_succ _) _)); first | exact HS.out | exact two_below _ _ _ | exact HB4.out | fail)); rintro e w3 ⟨rfl, hb3⟩)
    | (go_at_call 12; refine (HVA.out _ ?hb).mono ?_; (case hb => ((repeat (first | refine below_drawn ?_ | refine Below.setCell ?_ (Nat.le_succ _) _)); first | exact HS.out | exact two_below _ _ _ | exact HB4.out | fail)); rintro e w2 ⟨rfl, hb2⟩; obtain ⟨s0, s1, s2, s3, s4, s5, s6, s7, s8⟩ := nblk (((Blk.fresh w _ _).alloc _).on hb2); obtain ⟨t0, t1, t2, t3, t4, t5, t6, t7, t8⟩ := nblk ((Blk.freshAt (w.alloc _) _ _ (w.heap.size + 1) (by simp)).on hb2); have hb4 := (two_below w _ _).trans (hb2.mono (two_below w _ _).size); have HB4 := Lib.hid hb4; clear hb2 hb4))
    go_ret
    exact ⟨by rw [HR.out]; (first | (simp; done) | rfl), by first | exact hb3 | ((repeat (first | refine below_drawn ?_ | refine Below.setCell ?_ (Nat.le_succ _) _)); first | exact HS.out | exact two_below _ _ _ | exact HB4.out | fail)⟩
  · go_wp2_with (first
    | (go_at_call 64; refine (HN.out _ ?hb).mono ?_; (case hb => ((repeat (first | refine below_drawn ?_ | refine Below.setCell ?_ (Nat.le_succ _) _)); first | exact HS.out | exact two_below _ _ _ | exact HB4.out | fail)); rintro e w3 ⟨rfl, hb3⟩)
    | (go_at_call 12; refine (HVA.out _ ?hb).mono ?_; (case hb => ((repeat (first | refine below_drawn ?_ | refine Below.setCell ?_ (Nat.le_succ _) _)); first | exact HS.out | exact two_below _ _ _ | exact HB4.out | fail)); rintro e w2 ⟨rfl, hb2⟩; obtain ⟨s0, s1, s2, s3, s4, s5, s6, s7, s8⟩ := nblk (((Blk.fresh w _ _).alloc _).on hb2); obtain ⟨t0, t1, t2, t3, t4, t5, t6, t7, t8⟩ := nblk ((Blk.freshAt (w.alloc _) _ _ (w.heap.size + 1) (by simp)).on hb2); have hb4 := (two_below w _ _).trans (hb2.mono (two_below w _ _).size); have HB4 := Lib.hid hb4; clear hb2 hb4))
    go_ret
    exact ⟨by rw [HR.out]; (first | (simp; done) | rfl), by first | exact hb3 | ((repeat (first | refine below_drawn ?_ | refine Below.setCell ?_ (Nat.le_succ _) _)); first | exact HS.out | exact two_below _ _ _ | exact HB4.out | fail)⟩


set_option maxRecDepth 100000 in
set_option maxHeartbeats 4000000 in
theorem ref_form6 (lo hi : Int) (v : It) (l : List Int) (f : List Fl) (p : Pl) (n : Nat) (w : World) (hn : n ≤ w.heap.size) (hx : NdB w n (⟨6, lo, hi, v, l, f⟩ : Nd) p) (hv : okI 1048576 v) (hl : l.length ≤ 1099511627776) (_hf : f.length ≤ 1099511627776) :
    Calls Tryz.prog 37 #[vN (⟨6, lo, hi, v, l, f⟩ : Nd) p] w fun e w' => e = .returned (.bool (formN chI (⟨6, lo, hi, v, l, f⟩ : Nd))) ∧ Below w.heap.size w w' := by
  obtain ⟨w1, hw1, b1, b2, S⟩ := nblk2 w 47 (nc (⟨6, lo, hi, v, l, f⟩ : Nd) p) (nc (Nd.of 6) ⟨none, 0, none, 0, none, 0⟩)
  have HN : Hid (∀ W, Below w.heap.size w W → Calls Tryz.prog 64 #[vN (⟨6, lo, hi, zIt, l, []⟩ : Nd) (⟨none, 0, p.Al, p.cl, none, 0⟩ : Pl), vN (⟨6, lo, hi, v, l, f⟩ : Nd) p] W fun e w' => e = .returned (.bool (sameN (⟨6, lo, hi, zIt, l, []⟩ : Nd) (⟨6, lo, hi, v, l, f⟩ : Nd))) ∧ Below w.heap.size w w') := Lib.hid fun W hW => by
    have h := hx.keep (hW.mono hn)
    have hc := hv.1
    exact (ref_SameNode (⟨6, lo, hi, zIt, l, []⟩ : Nd) (⟨6, lo, hi, v, l, f⟩ : Nd) (⟨none, 0, p.Al, p.cl, none, 0⟩ : Pl) _ n W (Nat.le_trans hn hW.size) ⟨zIt_at W n, h.l, h.ll, h.ln, RdF.nil, Nat.zero_le _, fun _ => rfl⟩ h (by simp only [zIt, It.count, countL]; omega) (hl) (Nat.zero_le _)).mono fun e w' he => ⟨he.1, hW.trans (he.2.mono hW.size)⟩
  have HVA : Hid (∀ W, Below w.heap.size w W → Calls Tryz.prog 12 #[vI v p.Av p.cv] W fun e w' => e = .returned (.int .i64 (chI v)) ∧ Below W.heap.size W w') := Lib.hid fun W hW => ref_CheckW v p.Av p.cv n W hv (Nat.le_trans hn hW.size) (hx.v.keep (hW.mono hn))
  have HR : Hid (formN chI (⟨6, lo, hi, v, l, f⟩ : Nd) = (decide (l.length = 1) && sameN (⟨6, lo, hi, zIt, l, []⟩ : Nd) (⟨6, lo, hi, v, l, f⟩ : Nd))) := Lib.hid (by
    rw [formN_ref]; rfl)
  generalize sameN (⟨6, lo, hi, zIt, l, []⟩ : Nd) (⟨6, lo, hi, v, l, f⟩ : Nd) = rs at *
  unfold nc at b1 b2 hw1
  have HB1 := Lib.hid b1
  have HB2 := Lib.hid b2
  obtain ⟨p0, p1, p2, p3, p4, p5, p6, p7, p8⟩ := nblk b1
  have q := nblk b2
  simp only [Nd.of, zIt_k, zIt_n, zIt_s, zIt_l, List.length_nil] at q hw1 HB2 ⊢
  obtain ⟨q0, q1, q2, q3, q4, q5, q6, q7, q8⟩ := q
  have f1 := b2.free 1
  have f2 := b2.free 2
  have f7 := b2.free 7
  have f8 := b2.free 8
  have f3 := b2.free 3
  have f4 := b2.free 4
  have f5 := b2.free 5
  have f6 := b2.free 6
  have HS := Lib.hid S
  have HW1 := Lib.hid hw1
  clear b1 b2 S hn hx hv hw1
  simp only [vN, vI, zIt_k, zIt_n, zIt_s, zIt_l, List.length_nil] at HN HVA ⊢
  generalize formN chI (⟨6, lo, hi, v, l, f⟩ : Nd) = res at *
  go_enter Tryz.func37, Tryz.ntmps37
  generalize l.length = m at *
  rcases m with _ | _ | m
  · go_wp2_with fail
    rw [HW1.out]
    have d1 : w.heap.size ≠ w.heap.size + 1 := by omega
    have d2 : w.heap.size + 1 ≠ w.heap.size := by omega
    go_region
    go_wp2_with (first
    | (go_at_call 64; refine (HN.out _ ?hb).mono ?_; (case hb => ((repeat (first | refine below_drawn ?_ | refine Below.setCell ?_ (Nat.le_succ _) _)); first | exact HS.out | exact two_below _ _ _ | exact HB4.out | fail)); rintro e w3 ⟨rfl, hb3⟩)
    | (go_at_call 12; refine (HVA.out _ ?hb).mono ?_; (case hb => ((repeat (first | refine below_drawn ?_ | refine Below.setCell ?_ (Nat.le_succ _) _)); first | exact HS.out | exact two_below _ _ _ | exact HB4.out | fail)); rintro e w2 ⟨rfl, hb2⟩; obtain ⟨s0, s1, s2, s3, s4, s5, s6, s7, s8⟩ := nblk (((Blk.fresh w _ _).alloc _).on hb2); obtain ⟨t0, t1, t2, t3, t4, t5, t6, t7, t8⟩ := nblk ((Blk.freshAt (w.alloc _) _ _ (w.heap.size + 1) (by simp)).on hb2); have hb4 := (two_below w _ _).trans (hb2.mono (two_below w _ _).size); have HB4 := Lib.hid hb4; clear hb2 hb4))
    go_ret
    exact ⟨by rw [HR.out]; (first | (simp; done) | rfl), by first | exact hb3 | ((repeat (first | refine below_drawn ?_ | refine Below.setCell ?_ (Nat.le_succ _) _)); first | exact HS.out | exact two_below _ _ _ | exact HB4.out | fail)⟩
  · go_wp2_with fail
    rw [HW1.out]
    have d1 : w.heap.size ≠ w.heap.size + 1 := by omega
    have d2 : w.heap.size + 1 ≠ w.heap.size := by omega
    go_region
    go_wp2_with (first
    | (go_at_call 64; refine (HN.out _ ?hb).mono ?_; (case hb => ((repeat (first | refine below_drawn ?_ | refine Below.setCell ?_ (Nat.le_succ _) _)); first | exact HS.out | exact two_below _ _ _ | exact HB4.out | fail)); rintro e w3 ⟨rfl, hb3⟩)
    | (go_at_call 12; refine (HVA.out _ ?hb).mono ?_; (case hb => ((repeat (first | refine below_drawn ?_ | refine Below.setCell ?_ (Nat.le_succ _) _)); first | exact HS.out | exact two_below _ _ _ | exact HB4.out | fail)); rintro e w2 ⟨rfl, hb2⟩; obtain ⟨s0, s1, s2, s3, s4, s5, s6, s7, s8⟩ := nblk (((Blk.fresh w _ _).alloc _).on hb2); obtain ⟨t0, t1, t2, t3, t4, t5, t6, t7, t8⟩ := nblk ((Blk.freshAt (w.alloc _) _ _ (w.heap.size + 1) (by simp)).on hb2); have hb4 := (two_below w _ _).trans (hb2.mono (two_below w _ _).size); have HB4 := Lib.hid hb4; clear hb2 hb4))
    go_ret
    exact ⟨by rw [HR.out]; (first | (simp; done) | rfl), by first | exact hb3 | ((repeat (first | refine below_drawn ?_ | refine Below.setCell ?_ (Nat.le_succ _) _)); first | exact HS.out | exact two_below _ _ _ | exact HB4.out | fail)⟩
  · go_wp2_with fail
    rw [HW1.out]
    have d1 : w.heap.size ≠ w.heap.size + 1 := by omega
    have d2 : w.heap.size + 1 ≠ w.heap.size := by omega
    go_region
    go_wp2_with (first
    | (go_at_call 64; refine (HN.out _ ?hb).mono ?_; (case hb => ((repeat (first | refine below_drawn ?_ | refine Below.setCell ?_ (Nat.le_succ _) _)); first | exact HS.out | exact two_below _ _ _ | exact HB4.out | fail)); rintro e w3 ⟨rfl, hb3⟩)
    | (go_at_call 12; refine (HVA.out _ ?hb).mono ?_; (case hb => ((repeat (first | refine below_drawn ?_ | refine Below.setCell ?_ (Nat.le_succ _) _)); first | exact HS.out | exact two_below _ _ _ | exact HB4.out | fail)); rintro e w2 ⟨rfl, hb2⟩; obtain ⟨s0, s1, s2, s3, s4, s5, s6, s7, s8⟩ := nblk (((Blk.fresh w _ _).alloc _).on hb2); obtain ⟨t0, t1, t2, t3, t4, t5, t6, t7, t8⟩ := nblk ((Blk.freshAt (w.alloc _) _ _ (w.heap.size + 1) (by simp)).on hb2); have hb4 := (two_below w _ _).trans (hb2.mono (two_below w _ _).size); have HB4 := Lib.hid hb4; clear hb2 hb4))
    go_ret
    exact ⟨by rw [HR.out]; (first | (simp; done) | rfl), by first | exact hb3 | ((repeat (first | refine below_drawn ?_ | refine Below.setCell ?_ (Nat.le_succ _) _)); first | exact HS.out | exact two_below _ _ _ | exact HB4.out | fail)⟩


set_option maxRecDepth 100000 in
set_option maxHeartbeats 4000000 in
theorem ref_form7 (lo hi : Int) (v : It) (l : List Int) (f : List Fl) (p : Pl) (n : Nat) (w : World) (hn : n ≤ w.heap.size) (hx : NdB w n (⟨7, lo, hi, v, l, f⟩ : Nd) p) (hv : okI 1048576 v) (hl : l.length ≤ 1099511627776) (_hf : f.length ≤ 1099511627776) :
    Calls Tryz.prog 37 #[vN (⟨7, lo, hi, v, l, f⟩ : Nd) p] w fun e w' => e = .returned (.bool (formN chI (⟨7, lo, hi, v, l, f⟩ : Nd))) ∧ Below w.heap.size w w' := by
  obtain ⟨w1, hw1, b1, b2, S⟩ := nblk2 w 47 (nc (⟨7, lo, hi, v, l, f⟩ : Nd) p) (nc (Nd.of 7) ⟨none, 0, none, 0, none, 0⟩)
  have HN : Hid (∀ W, Below w.heap.size w W → Calls Tryz.prog 64 #[vN (⟨7, 0, 0, zIt, l, []⟩ : Nd) (⟨none, 0, p.Al, p.cl, none, 0⟩ : Pl), vN (⟨7, lo, hi, v, l, f⟩ : Nd) p] W fun e w' => e = .returned (.bool (sameN (⟨7, 0, 0, zIt, l, []⟩ : Nd) (⟨7, lo, hi, v, l, f⟩ : Nd))) ∧ Below w.heap.size w w') := Lib.hid fun W hW => by
    have h := hx.keep (hW.mono hn)
    have hc := hv.1
    exact (ref_SameNode (⟨7, 0, 0, zIt, l, []⟩ : Nd) (⟨7, lo, hi, v, l, f⟩ : Nd) (⟨none, 0, p.Al, p.cl, none, 0⟩ : Pl) _ n W (Nat.le_trans hn hW.size) ⟨zIt_at W n, h.l, h.ll, h.ln, RdF.nil, Nat.zero_le _, fun _ => rfl⟩ h (by simp only [zIt, It.count, countL]; omega) (hl) (Nat.zero_le _)).mono fun e w' he => ⟨he.1, hW.trans (he.2.mono hW.size)⟩
  have HVA : Hid (∀ W, Below w.heap.size w W → Calls Tryz.prog 12 #[vI v p.Av p.cv] W fun e w' => e = .returned (.int .i64 (chI v)) ∧ Below W.heap.size W w') := Lib.hid fun W hW => ref_CheckW v p.Av p.cv n W hv (Nat.le_trans hn hW.size) (hx.v.keep (hW.mono hn))
  have HR : Hid (formN chI (⟨7, lo, hi, v, l, f⟩ : Nd) = ( sameN (⟨7, 0, 0, zIt, l, []⟩ : Nd) (⟨7, lo, hi, v, l, f⟩ : Nd))) := Lib.hid (by
    rw [formN_ref]; rfl)
  generalize sameN (⟨7, 0, 0, zIt, l, []⟩ : Nd) (⟨7, lo, hi, v, l, f⟩ : Nd) = rs at *
  unfold nc at b1 b2 hw1
  have HB1 := Lib.hid b1
  have HB2 := Lib.hid b2
  obtain ⟨p0, p1, p2, p3, p4, p5, p6, p7, p8⟩ := nblk b1
  have q := nblk b2
  simp only [Nd.of, zIt_k, zIt_n, zIt_s, zIt_l, List.length_nil] at q hw1 HB2 ⊢
  obtain ⟨q0, q1, q2, q3, q4, q5, q6, q7, q8⟩ := q
  have f1 := b2.free 1
  have f2 := b2.free 2
  have f7 := b2.free 7
  have f8 := b2.free 8
  have f3 := b2.free 3
  have f4 := b2.free 4
  have f5 := b2.free 5
  have f6 := b2.free 6
  have HS := Lib.hid S
  have HW1 := Lib.hid hw1
  clear b1 b2 S hn hx hv hw1
  simp only [vN, vI, zIt_k, zIt_n, zIt_s, zIt_l, List.length_nil] at HN HVA ⊢
  generalize formN chI (⟨7, lo, hi, v, l, f⟩ : Nd) = res at *
  go_enter Tryz.func37, Tryz.ntmps37
  go_wp2_with (first
    | (go_at_call 64; refine (HN.out _ ?hb).mono ?_; (case hb => ((repeat (first | refine below_drawn ?_ | refine Below.setCell ?_ (Nat.le_succ _) _)); first | exact HS.out | exact two_below _ _ _ | exact HB4.out | fail)); rintro e w3 ⟨rfl, hb3⟩)
    | (go_at_call 12; refine (HVA.out _ ?hb).mono ?_; (case hb => ((repeat (first | refine below_drawn ?_ | refine Below.setCell ?_ (Nat.le_succ _) _)); first | exact HS.out | exact two_below _ _ _ | exact HB4.out | fail)); rintro e w2 ⟨rfl, hb2⟩; obtain ⟨s0, s1, s2, s3, s4, s5, s6, s7, s8⟩ := nblk (((Blk.fresh w _ _).alloc _).on hb2); obtain ⟨t0, t1, t2, t3, t4, t5, t6, t7, t8⟩ := nblk ((Blk.freshAt (w.alloc _) _ _ (w.heap.size + 1) (by simp)).on hb2); have hb4 := (two_below w _ _).trans (hb2.mono (two_below w _ _).size); have HB4 := Lib.hid hb4; clear hb2 hb4))
  · go_ret
    exact ⟨by rw [HR.out]; (first | (simp; done) | rfl), by first | exact hb3 | ((repeat (first | refine below_drawn ?_ | refine Below.setCell ?_ (Nat.le_succ _) _)); first | exact HS.out | exact two_below _ _ _ | exact HB4.out | fail)⟩

set_option maxRecDepth 100000 in
set_option maxHeartbeats 4000000 in
theorem ref_form8 (lo hi : Int) (v : It) (l : List Int) (f : List Fl) (p : Pl) (n : Nat) (w : World) (hn : n ≤ w.heap.size) (hx : NdB w n (⟨8, lo, hi, v, l, f⟩ : Nd) p) (hv : okI 1048576 v) (hl : l.length ≤ 1099511627776) (hf : f.length ≤ 1099511627776) :
    Calls Tryz.prog 37 #[vN (⟨8, lo, hi, v, l, f⟩ : Nd) p] w fun e w' => e = .returned (.bool (formN chI (⟨8, lo, hi, v, l, f⟩ : Nd))) ∧ Below w.heap.size w w' := by
  obtain ⟨w1, hw1, b1, b2, S⟩ := nblk2 w 47 (nc (⟨8, lo, hi, v, l, f⟩ : Nd) p) (nc (Nd.of 8) ⟨none, 0, none, 0, none, 0⟩)
  have HN : Hid (∀ W, Below w.heap.size w W → Calls Tryz.prog 64 #[vN (⟨8, 0, 0, zIt, [], f⟩ : Nd) (⟨none, 0, none, 0, p.Af, p.cf⟩ : Pl), vN (⟨8, lo, hi, v, l, f⟩ : Nd) p] W fun e w' => e = .returned (.bool (sameN (⟨8, 0, 0, zIt, [], f⟩ : Nd) (⟨8, lo, hi, v, l, f⟩ : Nd))) ∧ Below w.heap.size w w') := Lib.hid fun W hW => by
    have h := hx.keep (hW.mono hn)
    have hc := hv.1
    exact (ref_SameNode (⟨8, 0, 0, zIt, [], f⟩ : Nd) (⟨8, lo, hi, v, l, f⟩ : Nd) (⟨none, 0, none, 0, p.Af, p.cf⟩ : Pl) _ n W (Nat.le_trans hn hW.size) ⟨zIt_at W n, fun h => absurd h (by simp), Nat.zero_le _, fun _ => rfl, h.f, h.fl, h.fn⟩ h (by simp only [zIt, It.count, countL]; omega) (Nat.zero_le _) (hf)).mono fun e w' he => ⟨he.1, hW.trans (he.2.mono hW.size)⟩
  have HVA : Hid (∀ W, Below w.heap.size w W → Calls Tryz.prog 12 #[vI v p.Av p.cv] W fun e w' => e = .returned (.int .i64 (chI v)) ∧ Below W.heap.size W w') := Lib.hid fun W hW => ref_CheckW v p.Av p.cv n W hv (Nat.le_trans hn hW.size) (hx.v.keep (hW.mono hn))
  have HR : Hid (formN chI (⟨8, lo, hi, v, l, f⟩ : Nd) = (decide (l.length = 0) && sameN (⟨8, 0, 0, zIt, [], f⟩ : Nd) (⟨8, lo, hi, v, l, f⟩ : Nd))) := Lib.hid (by
    rw [formN_ref]; rfl)
  generalize sameN (⟨8, 0, 0, zIt, [], f⟩ : Nd) (⟨8, lo, hi, v, l, f⟩ : Nd) = rs at *
  unfold nc at b1 b2 hw1
  have HB1 := Lib.hid b1
  have HB2 := Lib.hid b2
  obtain ⟨p0, p1, p2, p3, p4, p5, p6, p7, p8⟩ := nblk b1
  have q := nblk b2
  simp only [Nd.of, zIt_k, zIt_n, zIt_s, zIt_l, List.length_nil] at q hw1 HB2 ⊢
  obtain ⟨q0, q1, q2, q3, q4, q5, q6, q7, q8⟩ := q
  have f1 := b2.free 1
  have f2 := b2.free 2
  have f7 := b2.free 7
  have f8 := b2.free 8
  have f3 := b2.free 3
  have f4 := b2.free 4
  have f5 := b2.free 5
  have f6 := b2.free 6
  have HS := Lib.hid S
  have HW1 := Lib.hid hw1
  clear b1 b2 S hn hx hv hw1
  simp only [vN, vI, zIt_k, zIt_n, zIt_s, zIt_l, List.length_nil] at HN HVA ⊢
  generalize formN chI (⟨8, lo, hi, v, l, f⟩ : Nd) = res at *
  go_enter Tryz.func37, Tryz.ntmps37
  generalize l.length = m at *
  rcases m with _ | _ | m
  · go_wp2_with (first
    | (go_at_call 64; refine (HN.out _ ?hb).mono ?_; (case hb => ((repeat (first | refine below_drawn ?_ | refine Below.setCell ?_ (Nat.le_succ _) _)); first | exact HS.out | exact two_below _ _ _ | exact HB4.out | fail)); rintro e w3 ⟨rfl, hb3⟩)
    | (go_at_call 12; refine (HVA.out _ ?hb).mono ?_; (case hb => ((repeat (first | refine below_drawn ?_ | refine Below.setCell ?_ (Nat.le_succ _) _)); first | exact HS.out | exact two_below _ _ _ | exact HB4.out | fail)); rintro e w2 ⟨rfl, hb2⟩; obtain ⟨s0, s1, s2, s3, s4, s5, s6, s7, s8⟩ := nblk (((Blk.fresh w _ _).alloc _).on hb2); obtain ⟨t0, t1, t2, t3, t4, t5, t6, t7, t8⟩ := nblk ((Blk.freshAt (w.alloc _) _ _ (w.heap.size + 1) (by simp)).on hb2); have hb4 := (two_below w _ _).trans (hb2.mono (two_below w _ _).size); have HB4 := Lib.hid hb4; clear hb2 hb4))
    go_ret
    exact ⟨by rw [HR.out]; (first | (simp; done) | rfl), by first | exact hb3 | ((repeat (first | refine below_drawn ?_ | refine Below.setCell ?_ (Nat.le_succ _) _)); first | exact HS.out | exact two_below _ _ _ | exact HB4.out | fail)⟩
  · go_wp2_with (first
    | (go_at_call 64; refine (HN.out _ ?hb).mono ?_; (case hb => ((repeat (first | refine below_drawn ?_ | refine Below.setCell ?_ (Nat.le_succ _) _)); first | exact HS.out | exact two_below _ _ _ | exact HB4.out | fail)); rintro e w3 ⟨rfl, hb3⟩)
    | (go_at_call 12; refine (HVA.out _ ?hb).mono ?_; (case hb => ((repeat (first | refine below_drawn ?_ | refine Below.setCell ?_ (Nat.le_succ _) _)); first | exact HS.out | exact two_below _ _ _ | exact HB4.out | fail)); rintro e w2 ⟨rfl, hb2⟩; obtain ⟨s0, s1, s2, s3, s4, s5, s6, s7, s8⟩ := nblk (((Blk.fresh w _ _).alloc _).on hb2); obtain ⟨t0, t1, t2, t3, t4, t5, t6, t7, t8⟩ := nblk ((Blk.freshAt (w.alloc _) _ _ (w.heap.size + 1) (by simp)).on hb2); have hb4 := (two_below w _ _).trans (hb2.mono (two_below w _ _).size); have HB4 := Lib.hid hb4; clear hb2 hb4))
    go_ret
    exact ⟨by rw [HR.out]; (first | (simp; done) | rfl), by first | exact hb3 | ((repeat (first | refine below_drawn ?_ | refine Below.setCell ?_ (Nat.le_succ _) _)); first | exact HS.out | exact two_below _ _ _ | exact HB4.out | fail)⟩
  · go_wp2_with (first
    | (go_at_call 64; refine (HN.out _ ?hb).mono ?_; (case hb => ((repeat (first | refine below_drawn ?_ | refine Below.setCell ?_ (Nat.le_succ _) _)); first | exact HS.out | exact two_below _ _ _ | exact HB4.out | fail)); rintro e w3 ⟨rfl, hb3⟩)
    | (go_at_call 12; refine (HVA.out _ ?hb).mono ?_; (case hb => ((repeat (first | refine below_drawn ?_ | refine Below.setCell ?_ (Nat.le_succ _) _)); first | exact HS.out | exact two_below _ _ _ | exact HB4.out | fail)); rintro e w2 ⟨rfl, hb2⟩; obtain ⟨s0, s1, s2, s3, s4, s5, s6, s7, s8⟩ := nblk (((Blk.fresh w _ _).alloc _).on hb2); obtain ⟨t0, t1, t2, t3, t4, t5, t6, t7, t8⟩ := nblk ((Blk.freshAt (w.alloc _) _ _ (w.heap.size + 1) (by simp)).on hb2); have hb4 := (two_below w _ _).trans (hb2.mono (two_below w _ _).size); have HB4 := Lib.hid hb4; clear hb2 hb4))
    go_ret
    exact ⟨by rw [HR.out]; (first | (simp; done) | rfl), by first | exact hb3 | ((repeat (first | refine below_drawn ?_ | refine Below.setCell ?_ (Nat.le_succ _) _)); first | exact HS.out | exact two_below _ _ _ | exact HB4.out | fail)⟩


set_option maxRecDepth 100000 in
set_option maxHeartbeats 4000000 in
theorem ref_form9 (lo hi : Int) (v : It) (l : List Int) (f : List Fl) (p : Pl) (n : Nat) (w : World) (hn : n ≤ w.heap.size) (hx : NdB w n (⟨9, lo, hi, v, l, f⟩ : Nd) p) (hv : okI 1048576 v) (hl : l.length ≤ 1099511627776) (_hf : f.length ≤ 1099511627776) :
    Calls Tryz.prog 37 #[vN (⟨9, lo, hi, v, l, f⟩ : Nd) p] w fun e w' => e = .returned (.bool (formN chI (⟨9, lo, hi, v, l, f⟩ : Nd))) ∧ Below w.heap.size w w' := by
  obtain ⟨w1, hw1, b1, b2, S⟩ := nblk2 w 47 (nc (⟨9, lo, hi, v, l, f⟩ : Nd) p) (nc (Nd.of 9) ⟨none, 0, none, 0, none, 0⟩)
  have HN : Hid (∀ W, Below w.heap.size w W → Calls Tryz.prog 64 #[vN (⟨9, lo, 0, zIt, l, []⟩ : Nd) (⟨none, 0, p.Al, p.cl, none, 0⟩ : Pl), vN (⟨9, lo, hi, v, l, f⟩ : Nd) p] W fun e w' => e = .returned (.bool (sameN (⟨9, lo, 0, zIt, l, []⟩ : Nd) (⟨9, lo, hi, v, l, f⟩ : Nd))) ∧ Below w.heap.size w w') := Lib.hid fun W hW => by
    have h := hx.keep (hW.mono hn)
    have hc := hv.1
    exact (ref_SameNode (⟨9, lo, 0, zIt, l, []⟩ : Nd) (⟨9, lo, hi, v, l, f⟩ : Nd) (⟨none, 0, p.Al, p.cl, none, 0⟩ : Pl) _ n W (Nat.le_trans hn hW.size) ⟨zIt_at W n, h.l, h.ll, h.ln, RdF.nil, Nat.zero_le _, fun _ => rfl⟩ h (by simp only [zIt, It.count, countL]; omega) (hl) (Nat.zero_le _)).mono fun e w' he => ⟨he.1, hW.trans (he.2.mono hW.size)⟩
  have HVA : Hid (∀ W, Below w.heap.size w W → Calls Tryz.prog 12 #[vI v p.Av p.cv] W fun e w' => e = .returned (.int .i64 (chI v)) ∧ Below W.heap.size W w') := Lib.hid fun W hW => ref_CheckW v p.Av p.cv n W hv (Nat.le_trans hn hW.size) (hx.v.keep (hW.mono hn))
  have HR : Hid (formN chI (⟨9, lo, hi, v, l, f⟩ : Nd) = (decide (l.length = 1) && sameN (⟨9, lo, 0, zIt, l, []⟩ : Nd) (⟨9, lo, hi, v, l, f⟩ : Nd))) := Lib.hid (by
    rw [formN_ref]; rfl)
  generalize sameN (⟨9, lo, 0, zIt, l, []⟩ : Nd) (⟨9, lo, hi, v, l, f⟩ : Nd) = rs at *
  unfold nc at b1 b2 hw1
  have HB1 := Lib.hid b1
  have HB2 := Lib.hid b2
  obtain ⟨p0, p1, p2, p3, p4, p5, p6, p7, p8⟩ := nblk b1
  have q := nblk b2
  simp only [Nd.of, zIt_k, zIt_n, zIt_s, zIt_l, List.length_nil] at q hw1 HB2 ⊢
  obtain ⟨q0, q1, q2, q3, q4, q5, q6, q7, q8⟩ := q
  have f1 := b2.free 1
  have f2 := b2.free 2
  have f7 := b2.free 7
  have f8 := b2.free 8
  have f3 := b2.free 3
  have f4 := b2.free 4
  have f5 := b2.free 5
  have f6 := b2.free 6
  have HS := Lib.hid S
  have HW1 := Lib.hid hw1
  clear b1 b2 S hn hx hv hw1
  simp only [vN, vI, zIt_k, zIt_n, zIt_s, zIt_l, List.length_nil] at HN HVA ⊢
  generalize formN chI (⟨9, lo, hi, v, l, f⟩ : Nd) = res at *
  go_enter Tryz.func37, Tryz.ntmps37
  generalize l.length = m at *
  rcases m with _ | _ | m
  · go_wp2_with (first
    | (go_at_call 64; refine (HN.out _ ?hb).mono ?_; (case hb => ((repeat (first | refine below_drawn ?_ | refine Below.setCell ?_ (Nat.le_succ _) _)); first | exact HS.out | exact two_below _ _ _ | exact HB4.out | fail)); rintro e w3 ⟨rfl, hb3⟩)
    | (go_at_call 12; refine (HVA.out _ ?hb).mono ?_; (case hb => ((repeat (first | refine below_drawn ?_ | refine Below.setCell ?_ (Nat.le_succ _) _)); first | exact HS.out | exact two_below _ _ _ | exact HB4.out | fail)); rintro e w2 ⟨rfl, hb2⟩; obtain ⟨s0, s1, s2, s3, s4, s5, s6, s7, s8⟩ := nblk (((Blk.fresh w _ _).alloc _).on hb2); obtain ⟨t0, t1, t2, t3, t4, t5, t6, t7, t8⟩ := nblk ((Blk.freshAt (w.alloc _) _ _ (w.heap.size + 1) (by simp)).on hb2); have hb4 := (two_below w _ _).trans (hb2.mono (two_below w _ _).size); have HB4 := Lib.hid hb4; clear hb2 hb4))
    go_ret
    exact ⟨by rw [HR.out]; (first | (simp; done) | rfl), by first | exact hb3 | ((repeat (first | refine below_drawn ?_ | refine Below.setCell ?_ (Nat.le_succ _) _)); first | exact HS.out | exact two_below _ _ _ | exact HB4.out | fail)⟩
  · go_wp2_with (first
    | (go_at_call 64; refine (HN.out _ ?hb).mono ?_; (case hb => ((repeat (first | refine below_drawn ?_ | refine Below.setCell ?_ (Nat.le_succ _) _)); first | exact HS.out | exact two_below _ _ _ | exact HB4.out | fail)); rintro e w3 ⟨rfl, hb3⟩)
    | (go_at_call 12; refine (HVA.out _ ?hb).mono ?_; (case hb => ((repeat (first | refine below_drawn ?_ | refine Below.setCell ?_ (Nat.le_succ _) _)); first | exact HS.out | exact two_below _ _ _ | exact HB4.out | fail)); rintro e w2 ⟨rfl, hb2⟩; obtain ⟨s0, s1, s2, s3, s4, s5, s6, s7, s8⟩ := nblk (((Blk.fresh w _ _).alloc _).on hb2); obtain ⟨t0, t1, t2, t3, t4, t5, t6, t7, t8⟩ := nblk ((Blk.freshAt (w.alloc _) _ _ (w.heap.size + 1) (by simp)).on hb2); have hb4 := (two_below w _ _).trans (hb2.mono (two_below w _ _).size); have HB4 := Lib.hid hb4; clear hb2 hb4))
    go_ret
    exact ⟨by rw [HR.out]; (first | (simp; done) | rfl), by first | exact hb3 | ((repeat (first | refine below_drawn ?_ | refine Below.setCell ?_ (Nat.le_succ _) _)); first | exact HS.out | exact two_below _ _ _ | exact HB4.out | fail)⟩
  · go_wp2_with (first
    | (go_at_call 64; refine (HN.out _ ?hb).mono ?_; (case hb => ((repeat (first | refine below_drawn ?_ | refine Below.setCell ?_ (Nat.le_succ _) _)); first | exact HS.out | exact two_below _ _ _ | exact HB4.out | fail)); rintro e w3 ⟨rfl, hb3⟩)
    | (go_at_call 12; refine (HVA.out _ ?hb).mono ?_; (case hb => ((repeat (first | refine below_drawn ?_ | refine Below.setCell ?_ (Nat.le_succ _) _)); first | exact HS.out | exact two_below _ _ _ | exact HB4.out | fail)); rintro e w2 ⟨rfl, hb2⟩; obtain ⟨s0, s1, s2, s3, s4, s5, s6, s7, s8⟩ := nblk (((Blk.fresh w _ _).alloc _).on hb2); obtain ⟨t0, t1, t2, t3, t4, t5, t6, t7, t8⟩ := nblk ((Blk.freshAt (w.alloc _) _ _ (w.heap.size + 1) (by simp)).on hb2); have hb4 := (two_below w _ _).trans (hb2.mono (two_below w _ _).size); have HB4 := Lib.hid hb4; clear hb2 hb4))
    go_ret
    exact ⟨by rw [HR.out]; (first | (simp; done) | rfl), by first | exact hb3 | ((repeat (first | refine below_drawn ?_ | refine Below.setCell ?_ (Nat.le_succ _) _)); first | exact HS.out | exact two_below _ _ _ | exact HB4.out | fail)⟩


set_option maxRecDepth 100000 in
set_option maxHeartbeats 4000000 in
theorem ref_form10 (lo hi : Int) (v : It) (l : List Int) (f : List Fl) (p : Pl) (n : Nat) (w : World) (hn : n ≤ w.heap.size) (hx : NdB w n (⟨10, lo, hi, v, l, f⟩ : Nd) p) (hv : okI 1048576 v) (hl : l.length ≤ 1099511627776) (_hf : f.length ≤ 1099511627776) :
    Calls Tryz.prog 37 #[vN (⟨10, lo, hi, v, l, f⟩ : Nd) p] w fun e w' => e = .returned (.bool (formN chI (⟨10, lo, hi, v, l, f⟩ : Nd))) ∧ Below w.heap.size w w' := by
  obtain ⟨w1, hw1, b1, b2, S⟩ := nblk2 w 47 (nc (⟨10, lo, hi, v, l, f⟩ : Nd) p) (nc (Nd.of 10) ⟨none, 0, none, 0, none, 0⟩)
  have HN : Hid (∀ W, Below w.heap.size w W → Calls Tryz.prog 64 #[vN (⟨10, 0, 0, zIt, l, []⟩ : Nd) (⟨none, 0, p.Al, p.cl, none, 0⟩ : Pl), vN (⟨10, lo, hi, v, l, f⟩ : Nd) p] W fun e w' => e = .returned (.bool (sameN (⟨10, 0, 0, zIt, l, []⟩ : Nd) (⟨10, lo, hi, v, l, f⟩ : Nd))) ∧ Below w.heap.size w w') := Lib.hid fun W hW => by
    have h := hx.keep (hW.mono hn)
    have hc := hv.1
    exact (ref_SameNode (⟨10, 0, 0, zIt, l, []⟩ : Nd) (⟨10, lo, hi, v, l, f⟩ : Nd) (⟨none, 0, p.Al, p.cl, none, 0⟩ : Pl) _ n W (Nat.le_trans hn hW.size) ⟨zIt_at W n, h.l, h.ll, h.ln, RdF.nil, Nat.zero_le _, fun _ => rfl⟩ h (by simp only [zIt, It.count, countL]; omega) (hl) (Nat.zero_le _)).mono fun e w' he => ⟨he.1, hW.trans (he.2.mono hW.size)⟩
  have HVA : Hid (∀ W, Below w.heap.size w W → Calls Tryz.prog 12 #[vI v p.Av p.cv] W fun e w' => e = .returned (.int .i64 (chI v)) ∧ Below W.heap.size W w') := Lib.hid fun W hW => ref_CheckW v p.Av p.cv n W hv (Nat.le_trans hn hW.size) (hx.v.keep (hW.mono hn))
  have HR : Hid (formN chI (⟨10, lo, hi, v, l, f⟩ : Nd) = (decide (1 ≤ l.length) && sameN (⟨10, 0, 0, zIt, l, []⟩ : Nd) (⟨10, lo, hi, v, l, f⟩ : Nd))) := Lib.hid (by
    rw [formN_ref]; rfl)
  generalize sameN (⟨10, 0, 0, zIt, l, []⟩ : Nd) (⟨10, lo, hi, v, l, f⟩ : Nd) = rs at *
  unfold nc at b1 b2 hw1
  have HB1 := Lib.hid b1
  have HB2 := Lib.hid b2
  obtain ⟨p0, p1, p2, p3, p4, p5, p6, p7, p8⟩ := nblk b1
  have q := nblk b2
  simp only [Nd.of, zIt_k, zIt_n, zIt_s, zIt_l, List.length_nil] at q hw1 HB2 ⊢
  obtain ⟨q0, q1, q2, q3, q4, q5, q6, q7, q8⟩ := q
  have f1 := b2.free 1
  have f2 := b2.free 2
  have f7 := b2.free 7
  have f8 := b2.free 8
  have f3 := b2.free 3
  have f4 := b2.free 4
  have f5 := b2.free 5
  have f6 := b2.free 6
  have HS := Lib.hid S
  have HW1 := Lib.hid hw1
  clear b1 b2 S hn hx hv hw1
  simp only [vN, vI, zIt_k, zIt_n, zIt_s, zIt_l, List.length_nil] at HN HVA ⊢
  generalize formN chI (⟨10, lo, hi, v, l, f⟩ : Nd) = res at *
  go_enter Tryz.func37, Tryz.ntmps37
  generalize l.length = m at *
  rcases m with _ | _ | m
  · go_wp2_with (first
    | (go_at_call 64; refine (HN.out _ ?hb).mono ?_; (case hb => ((repeat (first | refine below_drawn ?_ | refine Below.setCell ?_ (Nat.le_succ _) _)); first | exact HS.out | exact two_below _ _ _ | exact HB4.out | fail)); rintro e w3 ⟨rfl, hb3⟩)
    | (go_at_call 12; refine (HVA.out _ ?hb).mono ?_; (case hb => ((repeat (first | refine below_drawn ?_ | refine Below.setCell ?_ (Nat.le_succ _) _)); first | exact HS.out | exact two_below _ _ _ | exact HB4.out | fail)); rintro e w2 ⟨rfl, hb2⟩; obtain ⟨s0, s1, s2, s3, s4, s5, s6, s7, s8⟩ := nblk (((Blk.fresh w _ _).alloc _).on hb2); obtain ⟨t0, t1, t2, t3, t4, t5, t6, t7, t8⟩ := nblk ((Blk.freshAt (w.alloc _) _ _ (w.heap.size + 1) (by simp)).on hb2); have hb4 := (two_below w _ _).trans (hb2.mono (two_below w _ _).size); have HB4 := Lib.hid hb4; clear hb2 hb4))
    go_ret
    exact ⟨by rw [HR.out]; (first | (simp; done) | rfl), by first | exact hb3 | ((repeat (first | refine below_drawn ?_ | refine Below.setCell ?_ (Nat.le_succ _) _)); first | exact HS.out | exact two_below _ _ _ | exact HB4.out | fail)⟩
  · go_wp2_with (first
    | (go_at_call 64; refine (HN.out _ ?hb).mono ?_; (case hb => ((repeat (first | refine below_drawn ?_ | refine Below.setCell ?_ (Nat.le_succ _) _)); first | exact HS.out | exact two_below _ _ _ | exact HB4.out | fail)); rintro e w3 ⟨rfl, hb3⟩)
    | (go_at_call 12; refine (HVA.out _ ?hb).mono ?_; (case hb => ((repeat (first | refine below_drawn ?_ | refine Below.setCell ?_ (Nat.le_succ _) _)); first | exact HS.out | exact two_below _ _ _ | exact HB4.out | fail)); rintro e w2 ⟨rfl, hb2⟩; obtain ⟨s0, s1, s2, s3, s4, s5, s6, s7, s8⟩ := nblk (((Blk.fresh w _ _).alloc _).on hb2); obtain ⟨t0, t1, t2, t3, t4, t5, t6, t7, t8⟩ := nblk ((Blk.freshAt (w.alloc _) _ _ (w.heap.size + 1) (by simp)).on hb2); have hb4 := (two_below w _ _).trans (hb2.mono (two_below w _ _).size); have HB4 := Lib.hid hb4; clear hb2 hb4))
    go_ret
    exact ⟨by rw [HR.out]; (first | (simp; done) | rfl), by first | exact hb3 | ((repeat (first | refine below_drawn ?_ | refine Below.setCell ?_ (Nat.le_succ _) _)); first | exact HS.out | exact two_below _ _ _ | exact HB4.out | fail)⟩
  · go_wp2_with (first
    | (go_at_call 64; refine (HN.out _ ?hb).mono ?_; (case hb => ((repeat (first | refine below_drawn ?_ | refine Below.setCell ?_ (Nat.le_succ _) _)); first | exact HS.out | exact two_below _ _ _ | exact HB4.out | fail)); rintro e w3 ⟨rfl, hb3⟩)
    | (go_at_call 12; refine (HVA.out _ ?hb).mono ?_; (case hb => ((repeat (first | refine below_drawn ?_ | refine Below.setCell ?_ (Nat.le_succ _) _)); first | exact HS.out | exact two_below _ _ _ | exact HB4.out | fail)); rintro e w2 ⟨rfl, hb2⟩; obtain ⟨s0, s1, s2, s3, s4, s5, s6, s7, s8⟩ := nblk (((Blk.fresh w _ _).alloc _).on hb2); obtain ⟨t0, t1, t2, t3, t4, t5, t6, t7, t8⟩ := nblk ((Blk.freshAt (w.alloc _) _ _ (w.heap.size + 1) (by simp)).on hb2); have hb4 := (two_below w _ _).trans (hb2.mono (two_below w _ _).size); have HB4 := Lib.hid hb4; clear hb2 hb4))
    go_ret
    exact ⟨by rw [HR.out]; (first | (simp; done) | rfl), by first | exact hb3 | ((repeat (first | refine below_drawn ?_ | refine Below.setCell ?_ (Nat.le_succ _) _)); first | exact HS.out | exact two_below _ _ _ | exact HB4.out | fail)⟩


theorem ref_form (x : Nd) (p : Pl) (n : Nat) (w : World) (hn : n ≤ w.heap.size) (hx : NdB w n x p) (hv : okI 1048576 x.v) (hl : x.l.length ≤ 1099511627776) (hf : x.f.length ≤ 1099511627776) (hk : 0 ≤ x.k) (hk' : x.k ≤ 10) :
    Calls Tryz.prog 37 #[vN x p] w fun e w' => e = .returned (.bool (formN chI x)) ∧ Below w.heap.size w w' := by
  obtain ⟨k, lo, hi, v, l, f⟩ := x
  simp only at hk hk' hv hl hf
  rcases (by omega : k = 0 ∨ k = 1 ∨ k = 2 ∨ k = 3 ∨ k = 4 ∨ k = 5 ∨ k = 6 ∨ k = 7 ∨ k = 8 ∨ k = 9 ∨ k = 10) with rfl | rfl | rfl | rfl | rfl | rfl | rfl | rfl | rfl | rfl | rfl
  · exact ref_form0 lo hi v l f p n w hn hx hv hl hf
  · exact ref_form1 lo hi v l f p n w hn hx hv hl hf
  · exact ref_form2 lo hi v l f p n w hn hx hv hl hf
  · exact ref_form3 lo hi v l f p n w hn hx hv hl hf
  · exact ref_form4 lo hi v l f p n w hn hx hv hl hf
  · exact ref_form5 lo hi v l f p n w hn hx hv hl hf
  · exact ref_form6 lo hi v l f p n w hn hx hv hl hf
  · exact ref_form7 lo hi v l f p n w hn hx hv hl hf
  · exact ref_form8 lo hi v l f p n w hn hx hv hl hf
  · exact ref_form9 lo hi v l f p n w hn hx hv hl hf
  · exact ref_form10 lo hi v l f p n w hn hx hv hl hf
end Go.Proofs.YtjelgoeamaejmaaGreat
