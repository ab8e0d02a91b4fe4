/- Layer 18: a choice of the nodes 1 and 2: they are sorted, and alone. -/
import Derived.Test.YtjelgoeamaejmaaGreatKXAI
import Derived.LoopN
namespace Go.Proofs.YtjelgoeamaejmaaGreat
open Go.RowKit

/-- A list of two numbers. -/
def two12 (W : World) (g : Nat) : Prop := W.cell? ⟨g, 0, none⟩ = some (.int .i64 1) ∧ W.cell? ⟨g, 1, none⟩ = some (.int .i64 2)
theorem bits_len2 (w : World) : Calls Tryz.prog 78 #[.int .u64 2] w fun e w' => e = .returned (.int .i64 2) ∧ w' = w := by
  go_enter Tryz.func78, Tryz.ntmps78
  go_wp2
  go_ret
  exact ⟨ret_num (by kernel_rfl), rfl⟩
theorem den_nan (a : Int) (w : World) : Calls Tryz.prog 123 #[.int .i64 a] w fun e w' => e = .returned (.bool false) ∧ w' = w := by
  go_enter Tryz.func123, Tryz.ntmps123
  go_wp2_with fail
  go_ret
  exact ⟨by simp, rfl⟩
theorem den_less (w : World) : Calls Tryz.prog 95 #[.int .i64 2, .int .i64 1] w fun e w' => e = .returned (.bool false) ∧ w' = w := by
  have HN := Lib.hid (fun a w => den_nan a w)
  go_enter Tryz.func95, Tryz.ntmps95
  go_wp2_with (first
    | (go_at_call 123; refine (HN.out _ _).mono ?_; rintro e w' ⟨rfl, rfl⟩)
    | fail)
  go_ret
  exact ⟨rfl, rfl⟩
set_option maxRecDepth 100000 in
set_option maxHeartbeats 4000000 in
theorem den_insert (g cap : Nat) (w : World) (h : two12 w g) :
    Calls Tryz.prog 89 #[.slice (some ⟨g, 0, none⟩) 2 cap, .int .i64 0, .int .i64 2] w fun e w' => e = .returned (.tuple #[]) ∧ Below w.heap.size w w' := by
  obtain ⟨c0, c1⟩ := h
  have hfol : Tryz.prog.follows Departure.mixedOrders = true := by kernel_rfl
  go_enter Tryz.func89, Tryz.ntmps89
  go_wp2_with fail
  refine wp_loop_rounds 2 ?_
  rw [rounds_succ]
  go_wp2_with fail
  refine wp_loop_rounds 1 ?_
  rw [rounds_succ]
  go_wp2_with fail
  have hz : IntKind.i64.wrap 0 = 0 := by decide
  have hz2 : 0 ≤ IntKind.i64.wrap 0 ∧ IntKind.i64.wrap 0 < 2 := by decide
  have HL := Lib.hid (fun w => den_less w)
  go_quiet ((with_reducible exact Calls.quiet_of_same (HL.out _)))
  go_wp2_with fail
  rw [rounds_succ]
  go_wp2_with fail
  go_end0
  exact ⟨rfl, below_drewN (Below.refl _ _) nq⟩
set_option maxRecDepth 100000 in
set_option maxHeartbeats 4000000 in
theorem den_pdq (g cap : Nat) (lim : Int) (w : World) (h : two12 w g) :
    Calls Tryz.prog 77 #[.slice (some ⟨g, 0, none⟩) 2 cap, .int .i64 0, .int .i64 2, .int .i64 lim] w fun e w' => e = .returned (.tuple #[]) ∧ Below w.heap.size w w' := by
  have HI := Lib.hid (den_insert g cap w h)
  go_enter Tryz.func77, Tryz.ntmps77
  go_wp2_with fail
  refine wp_loop_rounds 1 ?_
  rw [rounds_succ]
  go_wp2_with (first
    | (go_at_call 89; refine HI.out.mono ?_; rintro e w2 ⟨rfl, hb⟩; have HB := Lib.hid hb; clear hb)
    | fail)
  refine bodyPost_ret (results_none rfl _ _ _) rfl ?_
  exact ⟨rfl, HB.out⟩
set_option maxRecDepth 100000 in
set_option maxHeartbeats 4000000 in
theorem den_sort (g cap : Nat) (w : World) (h : two12 w g) :
    Calls Tryz.prog 56 #[.slice (some ⟨g, 0, none⟩) 2 cap] w fun e w' => e = .returned (.tuple #[]) ∧ Below w.heap.size w w' := by
  have HI := Lib.hid (fun lim => den_pdq g cap lim w h)
  go_enter Tryz.func56, Tryz.ntmps56
  go_wp2_with (first
    | (go_at_call 78; refine (bits_len2 _).mono ?_; rintro e w' ⟨rfl, rfl⟩)
    | (go_at_call 77; refine (HI.out _).mono ?_; rintro e w2 ⟨rfl, hb⟩; have HB := Lib.hid hb; clear hb)
    | fail)
  first | go_ret | go_end0
  exact ⟨rfl, HB.out⟩
set_option maxRecDepth 100000 in
set_option maxHeartbeats 4000000 in
theorem den_compact (g cap : Nat) (w : World) (h : two12 w g) :
    Calls Tryz.prog 57 #[.slice (some ⟨g, 0, none⟩) 2 cap] w fun e w' => e = .returned (.slice (some ⟨g, 0, none⟩) 2 cap) ∧ Below w.heap.size w w' := by
  obtain ⟨c0, c1⟩ := h
  have hfol : Tryz.prog.follows Departure.mixedOrders = true := by kernel_rfl
  go_enter Tryz.func57, Tryz.ntmps57
  go_wp2_with fail
  refine wp_loop_rounds 2 ?_
  rw [rounds_succ]
  go_wp2_with fail
  go_region_with fail
  all_goals
    go_wp2_with fail
    rw [rounds_succ]
    go_wp2_with fail
    go_ret
    exact ⟨rfl, (Below.refl _ _).drew⟩
theorem den_stands1 (w : World) {B H cm g n m lo : Nat} {R : Nat → Nat → Bool} (h : Tbl w B H cm g n m lo R) (a : Nat) (hi : lo ≤ 1) (hn : 1 < n) (ha : a < m) :
    Calls Tryz.prog 34 #[.int .i64 1, .int .i64 (a : Int), .pointer (some ⟨cm, 0, none⟩)] w fun e w' => e = .returned (.bool (R 1 a)) ∧ w' = w := den_stands w h 1 a hi hn ha
theorem den_stands2 (w : World) {B H cm g n m lo : Nat} {R : Nat → Nat → Bool} (h : Tbl w B H cm g n m lo R) (a : Nat) (hi : lo ≤ 2) (hn : 2 < n) (ha : a < m) :
    Calls Tryz.prog 34 #[.int .i64 2, .int .i64 (a : Int), .pointer (some ⟨cm, 0, none⟩)] w fun e w' => e = .returned (.bool (R 2 a)) ∧ w' = w := den_stands w h 2 a hi hn ha
set_option maxRecDepth 100000 in
set_option maxHeartbeats 4000000 in
theorem den_rule41 (k a : Int) (b : Bool) (ga gs cm : Nat) (w : World) (ca : w.cell? ⟨ga, 0, none⟩ = some (.int .i64 a)) (cs : w.cell? ⟨gs, 0, none⟩ = some (standsV cm)) (h : Calls Tryz.prog 34 #[.int .i64 k, .int .i64 a, .pointer (some ⟨cm, 0, none⟩)] w fun e w' => e = .returned (.bool b) ∧ w' = w) :
    Calls Tryz.prog 60 #[.int .i64 k, .pointer (some ⟨gs, 0, none⟩), .pointer (some ⟨ga, 0, none⟩)] w fun e w' => e = .returned (.bool b) ∧ Below w.heap.size w w' := by
  have H := Lib.hid h
  unfold standsV at cs
  clear h
  go_enter Tryz.func60, Tryz.ntmps60
  go_wp2_with (first
    | (go_at_call 34; refine H.out.mono ?_; rintro e w' ⟨rfl, rfl⟩)
    | fail)
  go_ret
  exact ⟨rfl, Below.refl _ _⟩
theorem two12_own {w : World} {B g cap : Nat} (h : Own w B .i64 3 (.slice (some ⟨g, 0, none⟩) 2 cap) [1, 2]) : two12 w g := ⟨(h.at (j := 0) (by simp)).1, (h.at (j := 1) (by simp)).1⟩
set_option maxRecDepth 100000 in
set_option maxHeartbeats 4000000 in
theorem den_index (g cap B : Nat) (p q : Value) (b1 b2 : Bool) (w : World) (h : Own w B .i64 3 (.slice (some ⟨g, 0, none⟩) 2 cap) [1, 2])
    (H1a : ∀ W, Below w.heap.size w W → Calls Tryz.prog 60 #[.int .i64 1, p, q] W fun e w' => e = .returned (.bool b1) ∧ Below W.heap.size W w')
    (H2a : ∀ W, Below w.heap.size w W → Calls Tryz.prog 60 #[.int .i64 2, p, q] W fun e w' => e = .returned (.bool b2) ∧ Below W.heap.size W w') :
    Calls Tryz.prog 79 #[.slice (some ⟨g, 0, none⟩) 2 cap, .func (.func 60) #[] #[p, q]] w fun e w' => e = .returned (.int .i64 (if b1 then 0 else if b2 then 1 else -1)) ∧ Below w.heap.size w w' := by
  have H1 := Lib.hid H1a
  have H2 := Lib.hid H2a
  obtain ⟨c0, c1⟩ := two12_own h
  have HB := Lib.hid (Below.refl w.heap.size w)
  have HO := Lib.hid h
  clear h
  clear H1a H2a
  cases b1
  · cases b2
    · simp only [if_false, Bool.false_eq_true]
      go_enter Tryz.func79, Tryz.ntmps79
      go_wp2_with fail
      refine wp_loop_rounds 3 ?_
      rw [rounds_succ]
      go_wp2_with (first
        | (go_at_call 60; refine (H1.out _ HB.out).mono ?_; rintro e w2 ⟨rfl, hb⟩; have HB2 := Lib.hid hb; clear hb)
        | fail)
      obtain ⟨d0, d1⟩ := two12_own (HO.out.below HB2.out)
      rw [rounds_succ]
      go_wp2_with (first
        | (go_at_call 60; refine (H2.out _ HB2.out).mono ?_; rintro e w3 ⟨rfl, hb⟩; have HB3 := Lib.hid (HB2.out.trans (hb.mono HB2.out.size)); clear hb)
        | fail)
      rw [rounds_succ]
      go_wp2_with fail
      go_ret
      exact ⟨rfl, HB3.out⟩
    · simp only [if_true, if_false, Bool.false_eq_true]
      go_enter Tryz.func79, Tryz.ntmps79
      go_wp2_with fail
      refine wp_loop_rounds 3 ?_
      rw [rounds_succ]
      go_wp2_with (first
        | (go_at_call 60; refine (H1.out _ HB.out).mono ?_; rintro e w2 ⟨rfl, hb⟩; have HB2 := Lib.hid hb; clear hb)
        | fail)
      obtain ⟨d0, d1⟩ := two12_own (HO.out.below HB2.out)
      rw [rounds_succ]
      go_wp2_with (first
        | (go_at_call 60; refine (H2.out _ HB2.out).mono ?_; rintro e w3 ⟨rfl, hb⟩; have HB3 := Lib.hid (HB2.out.trans (hb.mono HB2.out.size)); clear hb)
        | fail)
      go_ret
      exact ⟨rfl, HB3.out⟩
  · simp only [if_true]
    go_enter Tryz.func79, Tryz.ntmps79
    go_wp2_with fail
    refine wp_loop_rounds 3 ?_
    rw [rounds_succ]
    go_wp2_with (first
      | (go_at_call 60; refine (H1.out _ HB.out).mono ?_; rintro e w2 ⟨rfl, hb⟩; have HB2 := Lib.hid hb; clear hb)
      | fail)
    go_ret
    exact ⟨rfl, HB2.out⟩
set_option maxRecDepth 100000 in
set_option maxHeartbeats 4000000 in
theorem den_contains (g cap : Nat) (p q : Value) (b1 b2 : Bool) (w : World)
    (H : Calls Tryz.prog 79 #[.slice (some ⟨g, 0, none⟩) 2 cap, .func (.func 60) #[] #[p, q]] w fun e w' => e = .returned (.int .i64 (if b1 then 0 else if b2 then 1 else -1)) ∧ Below w.heap.size w w') :
    Calls Tryz.prog 59 #[.slice (some ⟨g, 0, none⟩) 2 cap, .func (.func 60) #[] #[p, q]] w fun e w' => e = .returned (.bool (b1 || b2)) ∧ Below w.heap.size w w' := by
  have H := Lib.hid H
  cases b1 <;> cases b2
  all_goals
    simp only [if_true, if_false, Bool.false_eq_true] at H ⊢
    go_enter Tryz.func59, Tryz.ntmps59
    go_wp2_with (first
      | (go_at_call 79; refine H.out.mono ?_; rintro e w2 ⟨rfl, hb⟩; have HB2 := Lib.hid hb; clear hb)
      | fail)
    go_ret
    exact ⟨by simp, HB2.out⟩
set_option maxRecDepth 100000 in
set_option maxHeartbeats 4000000 in
theorem den_rule4 (q : Pt) (a : Nat) (gn gs : Nat) {B H cm g n m lo : Nat} {R : Nat → Nat → Bool} (w : World) (gl cap B' : Nat) (cn : Blk w gn 35 #[.slice (some ⟨gl, 0, none⟩) 2 cap]) (hl : Own w B' .i64 3 (.slice (some ⟨gl, 0, none⟩) 2 cap) [1, 2]) (cs : Blk w gs 59 #[standsV cm]) (h : Tbl w B H cm g n m lo R) (hlo : lo ≤ 1) (hn : 2 < n) (ha : a < m) :
    Calls Tryz.prog 58 (#[vP q, .int .i64 (a : Int)] ++ #[.pointer (some ⟨gn, 0, none⟩), .pointer (some ⟨gs, 0, none⟩)]) w fun e w' => e = .returned (.bool (R 1 a || R 2 a)) ∧ Below w.heap.size w w' := by
  obtain ⟨w1, hw1, b1, b2, S⟩ := two_boxes w 77 3 #[.int .i64 q.x.k, .int .u64 q.x.n, .string q.x.s, .slice q.A q.x.l.length q.cap, .int .i64 q.it] #[.int .i64 (a : Int)]
  have hs1 := cs.on S
  have T1 := h.on S
  have HO := hl.below S
  have HC := Lib.hid (den_contains gl cap (.pointer (some ⟨gs, 0, none⟩)) (.pointer (some ⟨w.heap.size + 1, 0, none⟩)) (R 1 a) (R 2 a) w1 (den_index gl cap B' _ _ _ _ w1 HO
    (fun W hW => den_rule41 1 a (R 1 a) (w.heap.size + 1) gs cm W (sblk (b2.on hW)) (sblk (hs1.on hW)) (den_stands1 W (T1.on hW) a hlo (by omega) ha))
    (fun W hW => den_rule41 2 a (R 2 a) (w.heap.size + 1) gs cm W (sblk (b2.on hW)) (sblk (hs1.on hW)) (den_stands2 W (T1.on hW) a (by omega) hn ha))))
  have d0 := sblk (cn.on S)
  have HS := Lib.hid S
  generalize (R 1 a || R 2 a) = res at *
  clear b1 b2 S hs1 T1 HO hl cs cn h
  unfold vP
  show Calls Tryz.prog 58 #[.agg #[.int .i64 q.x.k, .int .u64 q.x.n, .string q.x.s, .slice q.A q.x.l.length q.cap, .int .i64 q.it], .int .i64 a, .pointer (some ⟨gn, 0, none⟩), .pointer (some ⟨gs, 0, none⟩)] w _
  go_enter Tryz.func58, Tryz.ntmps58
  go_wp2_with (first
    | (go_at_call 59; refine HC.out.mono ?_; rintro e w2 ⟨rfl, hb⟩; have HB2 := Lib.hid hb; clear hb)
    | fail)
  go_ret
  exact ⟨rfl, HS.out.trans (HB2.out.mono HS.out.size)⟩
end Go.Proofs.YtjelgoeamaejmaaGreat
