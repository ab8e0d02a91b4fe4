/- Package cand: the document's example: which nodes stand for its head; Begin. -/
import Derived.Test.YtmihoeholcaokaaKBI
import Derived.Test.YtmihoeholcaokaaKBC
import Derived.Test.YtmihoeholcaokaaKAW
namespace Go.Proofs.Ytmihoeholcaokaa
open Go.RowKit Go.Shelf

def hd19 : Array Value := #[.int .i64 3, .int .i64 0, .int .u64 1]
set_option maxRecDepth 100000 in
set_option maxHeartbeats 4000000 in
theorem cand_counts (w : World) : Calls Try.prog 19 #[.agg hd19, .int .i64 3, .int .i64 1, .int .i64 2] w fun e w' => e = .returned (.bool true) ∧ Below w.heap.size w w' := by
  obtain ⟨w1, hw1, b1, S⟩ := iblk1 w 48 hd19
  have c0 : w1.cell? ⟨w.heap.size, 0, none⟩ = some (.int .i64 3) := by rw [b1.cell]; rfl
  have c2 : w1.cell? ⟨w.heap.size, 2, none⟩ = some (.int .u64 1) := by rw [b1.cell]; rfl
  have HS := Lib.hid S
  unfold hd19 at hw1 ⊢
  clear b1 S
  go_enter Try.func19, Try.ntmps19
  go_wp2
  go_ret
  exact ⟨rfl, HS.out⟩
theorem stBlk (w : World) (nd : Array Value) : ∃ w2, (w.alloc (.cells nd 42)).alloc (.cells hd19 48) = w2 ∧ Blk w2 w.heap.size 42 nd ∧ Blk w2 (w.heap.size + 1) 48 hd19 ∧ Below w.heap.size w w2 := by
  obtain ⟨w1, hw1, b1, S1⟩ := iblk1 w 42 nd
  obtain ⟨w2, hw2, b2, S2⟩ := iblk1 w1 48 hd19
  have e1 : w1.heap.size = w.heap.size + 1 := by rw [← hw1]; simp
  rw [e1] at b2
  exact ⟨w2, by rw [hw1]; exact hw2, b1.on S2, b2, S1.trans (S2.mono S1.size)⟩
set_option maxRecDepth 100000 in
set_option maxHeartbeats 4000000 in
theorem stands_ch (g : Nat) (w : World) : Calls Try.prog 16 #[.agg (nodeC 10 0 0 (.slice (some ⟨g, 0, none⟩) 2 2)), .agg hd19] w fun e w' => e = .returned (.bool false) ∧ Below w.heap.size w w' := by
  obtain ⟨w2, hw2, b1, b2, S⟩ := stBlk w (nodeC 10 0 0 (.slice (some ⟨g, 0, none⟩) 2 2))
  have c0 : w2.cell? ⟨w.heap.size, 0, none⟩ = some (.int .i64 10) := by rw [b1.cell]; rfl
  have HS := Lib.hid S
  unfold nodeC hd19 at hw2 ⊢
  clear b1 b2 S
  go_enter Try.func16, Try.ntmps16
  go_wp2
  go_ret
  exact ⟨rfl, HS.out⟩
set_option maxRecDepth 100000 in
set_option maxHeartbeats 4000000 in
theorem stands_in (w : World) : Calls Try.prog 16 #[.agg (nodeC 1 0 5 (.slice none 0 0)), .agg hd19] w fun e w' => e = .returned (.bool false) ∧ Below w.heap.size w w' := by
  obtain ⟨w2, hw2, b1, b2, S⟩ := stBlk w (nodeC 1 0 5 (.slice none 0 0))
  have c0 : w2.cell? ⟨w.heap.size, 0, none⟩ = some (.int .i64 1) := by rw [b1.cell]; rfl
  have k0 : w2.cell? ⟨w.heap.size + 1, 0, none⟩ = some (.int .i64 3) := by rw [b2.cell]; rfl
  have k2 : w2.cell? ⟨w.heap.size + 1, 2, none⟩ = some (.int .u64 1) := by rw [b2.cell]; rfl
  have HS := Lib.hid S
  have HN := Lib.hid (fun W => den_Number 3 1 ⟨#[]⟩ none 0 0 W (by decide))
  rw [numR_other (by decide) (by decide)] at HN
  unfold nodeC hd19 at hw2 ⊢
  clear b1 b2 S
  go_enter Try.func16, Try.ntmps16
  go_wp2_with (first
    | (go_at_call 18; refine (HN.out _).mono ?_; rintro e w3 ⟨rfl, hb⟩; have HB := Lib.hid (HS.out.trans (hb.mono HS.out.size)); clear hb)
    | fail)
  go_ret
  exact ⟨rfl, HB.out⟩
set_option maxRecDepth 100000 in
set_option maxHeartbeats 4000000 in
theorem stands_st (w : World) : Calls Try.prog 16 #[.agg (nodeC 3 1 2 (.slice none 0 0)), .agg hd19] w fun e w' => e = .returned (.bool true) ∧ Below w.heap.size w w' := by
  obtain ⟨w2, hw2, b1, b2, S⟩ := stBlk w (nodeC 3 1 2 (.slice none 0 0))
  have c0 : w2.cell? ⟨w.heap.size, 0, none⟩ = some (.int .i64 3) := by rw [b1.cell]; rfl
  have c1 : w2.cell? ⟨w.heap.size, 1, none⟩ = some (.int .i64 1) := by rw [b1.cell]; rfl
  have c2 : w2.cell? ⟨w.heap.size, 2, none⟩ = some (.int .i64 2) := by rw [b1.cell]; rfl
  have k0 : w2.cell? ⟨w.heap.size + 1, 0, none⟩ = some (.int .i64 3) := by rw [b2.cell]; rfl
  have k1 : w2.cell? ⟨w.heap.size + 1, 1, none⟩ = some (.int .i64 0) := by rw [b2.cell]; rfl
  have k2 : w2.cell? ⟨w.heap.size + 1, 2, none⟩ = some (.int .u64 1) := by rw [b2.cell]; rfl
  have HS := Lib.hid S
  have HN := Lib.hid (fun W => cand_counts W)
  unfold nodeC hd19 at hw2 ⊢
  unfold hd19 at HN
  clear b1 b2 S
  go_enter Try.func16, Try.ntmps16
  go_wp2_with (first
    | (go_at_call 19; refine (HN.out _).mono ?_; rintro e w3 ⟨rfl, hb⟩; have HB := Lib.hid (HS.out.trans (hb.mono HS.out.size)); clear hb)
    | fail)
  go_ret
  exact ⟨rfl, HB.out⟩
end Go.Proofs.Ytmihoeholcaokaa

/- Package cand: the document's example: Begin. -/
namespace Go.Proofs.Ytmihoeholcaokaa
open Go.RowKit Go.Shelf
attribute [local go_sem] Oper.semAt_some

theorem el7 : elB 7 256 = [0, 1, 2] := by decide +kernel
def bg (pre : List Nat) : Nat := if 2 ∈ pre then 4 else 0
theorem pre7 {pre : List Nat} {z : Nat} (h : (pre ++ [z]) <+: elB 7 256) : (pre = [] ∧ z = 0) ∨ (pre = [0] ∧ z = 1) ∨ (pre = [0, 1] ∧ z = 2) := by
  rw [el7] at h
  obtain ⟨r, hr⟩ := h
  match pre, hr with
  | [], hr => left; simp at hr; exact ⟨rfl, hr.1⟩
  | [a], hr => right; left; simp at hr; obtain ⟨rfl, rfl, _⟩ := hr; exact ⟨rfl, rfl⟩
  | [a, b], hr => right; right; simp at hr; obtain ⟨rfl, rfl, rfl, _⟩ := hr; exact ⟨rfl, rfl⟩
  | a :: b :: c :: d, hr =>
    have := congrArg List.length hr
    simp at this
theorem rs_set4 {W w : World} {n B g : Nat} (x y z u : Value) (h : Rs n B W w) (hn : n ≤ g) (hg : g < B) : Rs n B W ((((w.setCell ⟨g, 0, none⟩ x).setCell ⟨g, 1, none⟩ y).setCell ⟨g, 2, none⟩ z).setCell ⟨g, 3, none⟩ u) := (((h.trans (Rs.set _ x hn hg)).trans (Rs.set _ y hn hg)).trans (Rs.set _ z hn hg)).trans (Rs.set _ u hn hg)
theorem heap_set4 {w : World} {g i : Nat} (x y z u : Value) (hi : i ≠ g) : ((((w.setCell ⟨g, 0, none⟩ x).setCell ⟨g, 1, none⟩ y).setCell ⟨g, 2, none⟩ z).setCell ⟨g, 3, none⟩ u).heap[i]? = w.heap[i]? :=
  ((Below.heap_setCell _ ⟨g, 3, none⟩ u i hi).trans (Below.heap_setCell _ ⟨g, 2, none⟩ z i hi)).trans ((Below.heap_setCell _ ⟨g, 1, none⟩ y i hi).trans (Below.heap_setCell w ⟨g, 0, none⟩ x i hi))
theorem bgBlk (w : World) (gN : Nat) : ∃ w5, ((((w.alloc (.cells #[.slice (some ⟨gN, 0, none⟩) 3 3] 45)).alloc (.cells #[.int .u64 1, .int .u64 0, .int .u64 0, .int .u64 0] 27)).alloc (.cells #[.int .i64 3, .int .i64 0, .int .u64 1] 48)).alloc (.cells #[.int .u64 0, .int .u64 0, .int .u64 0, .int .u64 0] 27)).alloc (.cells #[.int .u64 0, .int .u64 0, .int .u64 0, .int .u64 0] 27) = w5 ∧ Blk w5 w.heap.size 45 #[.slice (some ⟨gN, 0, none⟩) 3 3] ∧ Blk w5 (w.heap.size + 1) 27 #[.int .u64 1, .int .u64 0, .int .u64 0, .int .u64 0] ∧ Blk w5 (w.heap.size + 2) 48 #[.int .i64 3, .int .i64 0, .int .u64 1] ∧ Blk w5 (w.heap.size + 3) 27 #[.int .u64 0, .int .u64 0, .int .u64 0, .int .u64 0] ∧ Blk w5 (w.heap.size + 4) 27 #[.int .u64 0, .int .u64 0, .int .u64 0, .int .u64 0] ∧ Below w.heap.size w w5 ∧ w5.heap.size = w.heap.size + 5 := by
  obtain ⟨w1, hw1, b1, T1⟩ := iblk1 w 45 #[.slice (some ⟨gN, 0, none⟩) 3 3]
  obtain ⟨w2, hw2, b2, T2⟩ := iblk1 w1 27 #[.int .u64 1, .int .u64 0, .int .u64 0, .int .u64 0]
  obtain ⟨w3, hw3, b3, T3⟩ := iblk1 w2 48 #[.int .i64 3, .int .i64 0, .int .u64 1]
  obtain ⟨w4, hw4, b4, T4⟩ := iblk1 w3 27 #[.int .u64 0, .int .u64 0, .int .u64 0, .int .u64 0]
  obtain ⟨w5, hw5, b5, T5⟩ := iblk1 w4 27 #[.int .u64 0, .int .u64 0, .int .u64 0, .int .u64 0]
  have e1 : w1.heap.size = w.heap.size + 1 := by rw [← hw1]; simp
  have e2 : w2.heap.size = w.heap.size + 2 := by rw [← hw2]; simp [e1]
  have e3 : w3.heap.size = w.heap.size + 3 := by rw [← hw3]; simp [e2]
  have e4 : w4.heap.size = w.heap.size + 4 := by rw [← hw4]; simp [e3]
  have e5 : w5.heap.size = w.heap.size + 5 := by rw [← hw5]; simp [e4]
  rw [e1] at b2
  rw [e2] at b3
  rw [e3] at b4
  rw [e4] at b5
  refine ⟨w5, by rw [hw1, hw2, hw3, hw4]; exact hw5, (((b1.on T2).on T3).on T4).on T5, ((b2.on T3).on T4).on T5, (b3.on T4).on T5, b4.on T5, b5, ?_, e5⟩
  exact (((T1.trans (T2.mono (by omega))).trans (T3.mono (by omega))).trans (T4.mono (by omega))).trans (T5.mono (by omega))
set_option maxRecDepth 100000 in
set_option maxHeartbeats 8000000 in
theorem cand_Begin (g gN : Nat) (w : World) (h : Aw w g gN) : Calls Try.prog 12 #[.agg #[.slice (some ⟨gN, 0, none⟩) 3 3], .agg #[.int .u64 1, .int .u64 0, .int .u64 0, .int .u64 0], .agg hd19] w fun e w' => e = .returned (.agg (setC 4)) ∧ Below w.heap.size w w' := by
  obtain ⟨w5, hw5, d0, d1, d2, d3, d4, S, hz5⟩ := bgBlk w gN
  have HOP := Lib.hid (cand_Open g gN w5 (h.on S))
  have HAL := Lib.hid (fun W => cand_All 7 W)
  simp only [setC_1, setC_7] at HOP HAL
  have HGL := Lib.hid (And.intro h.l.lt h.n.lt)
  have HA := Lib.hid (h.on S)
  have HD0 := Lib.hid d0
  have HD2 := Lib.hid d2
  have HD3 := Lib.hid d3
  have HD4 := Lib.hid d4
  have HS := Lib.hid S
  have HZ := Lib.hid hz5
  have p0 := sblk d0
  obtain ⟨q0, q1, q2, q3, -⟩ := cells4 d1
  unfold hd19
  clear d0 d1 d2 d3 d4 S h
  refine (callsIn_wide (n := 0)).1 ?_
  refine callsIn_of_wp_marks Try.func12 rfl trivial ?_ rfl
  simp only [Try.ntmps12, List.size_toArray, List.length_cons, List.length_nil, Nat.reduceAdd, Nat.reduceSub, Array.replicate_succ, Array.replicate_zero, List.push_toArray, List.append_toArray, List.nil_append, List.cons_append]
  gi_wp2_with (first
    | (refine ⟨trivial, rfl, ?_⟩; gi_at_call 15; refine (callsIn_wide.2 HOP.out).mono ?_; rintro e w6 ⟨rfl, hb6⟩; have HB6 := Lib.hid hb6; clear hb6)
    | (refine ⟨trivial, rfl, ?_⟩; gi_at_call 10; refine (callsIn_wide.2 (HAL.out _)).mono ?_; rintro e w7 ⟨rfl, hk7, hb7⟩; have HB7 := Lib.hid (HB6.out.trans (hb7.mono HB6.out.size)); have HK7 := Lib.hid hk7; clear hk7 hb7)
    | fail)
  have hsz6 := HB6.out.size
  obtain ⟨Bk, hBk⟩ : ∃ Bk, w6.heap.size = Bk := ⟨_, rfl⟩
  rw [hBk] at HK7 hsz6 ⊢
  have hz := HZ.out
  have hb7 := HB7.out
  have hs7 := hb7.size
  refine wp_rangeK (gf := 13) (lb := #[.pointer (some ⟨Bk, 0, none⟩)]) rfl (enters_of Try.func13 (by kernel_rfl) rfl)
    (cand_seq 7 Bk (w.heap.size + 4) w7) (Below.refl _ _) (by omega) (fun _ => rfl)
    (fun pre W => Blk W (w.heap.size + 4) 27 (setC (bg pre)) ∧ Below (w.heap.size + 4) w7 W ∧ Blk W Bk 27 (setC 7)) (fun _ _ _ => False)
    (fun s W1 W2 ⟨k0, k1, k2⟩ hb => ⟨k0.below hb (by omega), k1.trans (hb.mono (by omega)), k2.below hb HK7.out.lt⟩) (fun _ _ _ _ hf _ => hf) (fun _ _ h => h.2.2) ⟨HD4.out.on hb7, Below.refl _ _, HK7.out⟩
    (fun z a' _ => a' = { tmps := #[.agg #[.slice (some ⟨gN, 0, none⟩) 3 3], .agg #[.int .u64 1, .int .u64 0, .int .u64 0, .int .u64 0], .agg #[.int .i64 3, .int .i64 0, .int .u64 1], .pointer (some ⟨w.heap.size, 0, none⟩), .pointer (some ⟨w.heap.size + 1, 0, none⟩), .pointer (some ⟨w.heap.size + 2, 0, none⟩), .pointer (some ⟨w.heap.size + 3, 0, none⟩), .pointer (some ⟨w.heap.size + 4, 0, none⟩), .int .i64 (z : Nat), .agg #[.slice (some ⟨gN, 0, none⟩) 3 3], .agg #[.int .u64 1, .int .u64 0, .int .u64 0, .int .u64 0], .agg #[.int .u64 7, .int .u64 0, .int .u64 0, .int .u64 0], .func (.func 13) #[] #[.pointer (some ⟨Bk, 0, none⟩)], .int .i64 (z : Nat), undef, undef, undef, undef, undef, undef, undef, undef, undef, undef, undef], defers := [] }) (fun _ _ _ _ ha => ha) ?assign ?body ?done ?stop
  case assign =>
    intro l pre z W K hi _ _ hs hlen hK
    gi_wp2
    exact hK _ _ (Rs.refl _ _ _) hi rfl
  case body =>
    rintro l pre z a' W ⟨k0, k1, k2⟩ hG rfl hs hlen
    have hs8 : w7.heap.size ≤ W.heap.size := by have := k1.size; omega
    have hgl := HGL.out
    have hbA := HA.out.on hb7
    have hA := Aw.mk (hbA.l.below k1 (by omega)) (hbA.n.below k1 (by omega))
    have pp := sblk ((HD0.out.on hb7).below k1 (by omega))
    have hH := (HD2.out.on hb7).below k1 (by omega)
    have hh0 : W.cell? ⟨w.heap.size + 2, 0, none⟩ = some (.int .i64 3) := by rw [hH.cell]; rfl
    have hh1 : W.cell? ⟨w.heap.size + 2, 1, none⟩ = some (.int .i64 0) := by rw [hH.cell]; rfl
    have hh2 : W.cell? ⟨w.heap.size + 2, 2, none⟩ = some (.int .u64 1) := by rw [hH.cell]; rfl
    have hfol : Try.prog.follows Departure.mixedOrders = true := by kernel_rfl
    clear hH
    rcases pre7 hG with ⟨rfl, rfl⟩ | ⟨rfl, rfl⟩ | ⟨rfl, rfl⟩
    · have HC := Lib.hid (fun W => stands_ch g W)
      unfold nodeC hd19 at HC
      have n0 : W.cell? ⟨gN, 0, none⟩ = some (.int .i64 10) := by rw [hA.n.cell]; rfl
      have n1 : W.cell? ⟨gN, 1, none⟩ = some (.int .i64 0) := by rw [hA.n.cell]; rfl
      have n2 : W.cell? ⟨gN, 2, none⟩ = some (.int .i64 0) := by rw [hA.n.cell]; rfl
      have n3 : W.cell? ⟨gN, 3, none⟩ = some (.int .i64 0) := by rw [hA.n.cell]; rfl
      have n4 : W.cell? ⟨gN, 4, none⟩ = some (.int .u64 0) := by rw [hA.n.cell]; rfl
      have n5 : W.cell? ⟨gN, 5, none⟩ = some (.string ⟨#[]⟩) := by rw [hA.n.cell]; rfl
      have n6 : W.cell? ⟨gN, 6, none⟩ = some (.slice none 0 0) := by rw [hA.n.cell]; rfl
      have n7 : W.cell? ⟨gN, 7, none⟩ = some (.slice (some ⟨g, 0, none⟩) 2 2) := by rw [hA.n.cell]; rfl
      have n8 : W.cell? ⟨gN, 8, none⟩ = some (.slice none 0 0) := by rw [hA.n.cell]; rfl
      clear hA HA HD0 HD2 HD3 HD4 HOP HAL HB6 HB7 hbA
      gi_wp2
      gi_region_with_o (first | (refine ⟨trivial, rfl, ?_⟩; gi_at_call 16; refine (CallsIn.inRound l (callsIn_wide.2 (HC.out _))).mono ?_; rintro e w8 ⟨rfl, hb8⟩; have HB8 := Lib.hid (show Below W.heap.size W w8 from Below.trans (by (repeat (refine below_drawn ?_)); exact Below.refl _ _) hb8); clear hb8))
      all_goals
        gi_wp2
        exact ⟨Rs.of_below HB8.out (by omega) _, (k0.on HB8.out), k1.trans (HB8.out.mono (by omega)), k2.on HB8.out⟩
    · have HC := Lib.hid (fun W => stands_in W)
      unfold nodeC hd19 at HC
      have n0 : W.cell? ⟨gN, 9, none⟩ = some (.int .i64 1) := by rw [hA.n.cell]; rfl
      have n1 : W.cell? ⟨gN, 10, none⟩ = some (.int .i64 0) := by rw [hA.n.cell]; rfl
      have n2 : W.cell? ⟨gN, 11, none⟩ = some (.int .i64 5) := by rw [hA.n.cell]; rfl
      have n3 : W.cell? ⟨gN, 12, none⟩ = some (.int .i64 0) := by rw [hA.n.cell]; rfl
      have n4 : W.cell? ⟨gN, 13, none⟩ = some (.int .u64 0) := by rw [hA.n.cell]; rfl
      have n5 : W.cell? ⟨gN, 14, none⟩ = some (.string ⟨#[]⟩) := by rw [hA.n.cell]; rfl
      have n6 : W.cell? ⟨gN, 15, none⟩ = some (.slice none 0 0) := by rw [hA.n.cell]; rfl
      have n7 : W.cell? ⟨gN, 16, none⟩ = some (.slice none 0 0) := by rw [hA.n.cell]; rfl
      have n8 : W.cell? ⟨gN, 17, none⟩ = some (.slice none 0 0) := by rw [hA.n.cell]; rfl
      clear hA HA HD0 HD2 HD3 HD4 HOP HAL HB6 HB7 hbA
      gi_wp2
      gi_region_with_o (first | (refine ⟨trivial, rfl, ?_⟩; gi_at_call 16; refine (CallsIn.inRound l (callsIn_wide.2 (HC.out _))).mono ?_; rintro e w8 ⟨rfl, hb8⟩; have HB8 := Lib.hid (show Below W.heap.size W w8 from Below.trans (by (repeat (refine below_drawn ?_)); exact Below.refl _ _) hb8); clear hb8))
      all_goals
        gi_wp2
        exact ⟨Rs.of_below HB8.out (by omega) _, (k0.on HB8.out), k1.trans (HB8.out.mono (by omega)), k2.on HB8.out⟩
    · have HC := Lib.hid (fun W => stands_st W)
      unfold nodeC hd19 at HC
      have n0 : W.cell? ⟨gN, 18, none⟩ = some (.int .i64 3) := by rw [hA.n.cell]; rfl
      have n1 : W.cell? ⟨gN, 19, none⟩ = some (.int .i64 1) := by rw [hA.n.cell]; rfl
      have n2 : W.cell? ⟨gN, 20, none⟩ = some (.int .i64 2) := by rw [hA.n.cell]; rfl
      have n3 : W.cell? ⟨gN, 21, none⟩ = some (.int .i64 0) := by rw [hA.n.cell]; rfl
      have n4 : W.cell? ⟨gN, 22, none⟩ = some (.int .u64 0) := by rw [hA.n.cell]; rfl
      have n5 : W.cell? ⟨gN, 23, none⟩ = some (.string ⟨#[]⟩) := by rw [hA.n.cell]; rfl
      have n6 : W.cell? ⟨gN, 24, none⟩ = some (.slice none 0 0) := by rw [hA.n.cell]; rfl
      have n7 : W.cell? ⟨gN, 25, none⟩ = some (.slice none 0 0) := by rw [hA.n.cell]; rfl
      have n8 : W.cell? ⟨gN, 26, none⟩ = some (.slice none 0 0) := by rw [hA.n.cell]; rfl
      clear hA HA HD0 HD2 HD3 HD4 HOP HAL HB6 HB7 hbA
      gi_wp2
      gi_region_with_o (first | (refine ⟨trivial, rfl, ?_⟩; gi_at_call 16; refine (CallsIn.inRound l (callsIn_wide.2 (HC.out _))).mono ?_; rintro e w8 ⟨rfl, hb8⟩; have HB8 := Lib.hid (show Below W.heap.size W w8 from Below.trans (by (repeat (refine below_drawn ?_)); exact Below.refl _ _) hb8); clear hb8))
      all_goals
        have HK0 := Lib.hid (k0.on HB8.out)
        obtain ⟨x0, x1, x2, x3, -⟩ := cells4 HK0.out
        have HWI := Lib.hid (fun W => cand_With 0 2 W)
        rw [show withB 0 2 = 4 by decide, setC_0, setC_4] at HWI
        gi_wp2_with (first
          | (refine ⟨trivial, rfl, ?_⟩; gi_at_call 9; refine (CallsIn.inRound l (callsIn_wide.2 (HWI.out _))).mono ?_; rintro e w9 ⟨rfl, hb9⟩; have HB9 := Lib.hid (HB8.out.trans (hb9.mono HB8.out.size)); clear hb9; have HK9 := Lib.hid (k0.on HB9.out); obtain ⟨y0, y1, y2, y3, yf⟩ := cells4 HK9.out)
          | fail)
        have hk := blk_set4 (.int .u64 4) (.int .u64 0) (.int .u64 0) (.int .u64 0) HK9.out
        have hr := below_set4 (g := w.heap.size + 4) (.int .u64 4) (.int .u64 0) (.int .u64 0) (.int .u64 0) (k1.trans (HB9.out.mono (by omega))) (Nat.le_refl _)
        exact ⟨rs_set4 _ _ _ _ (Rs.of_below HB9.out (by omega) _) (Nat.le_refl _) (by omega), hk, hr, far_set4 _ _ _ _ (k2.on HB9.out) (by omega)⟩
  case done =>
    rintro xs W hs hx ⟨k0, k1, k2⟩ hK
    rw [hx, el7, show bg [0, 1, 2] = 4 by decide, setC_4] at k0
    have HR := Lib.hid (((HD3.out.on hb7).below k1 (by omega)).on (Below.refl _ _))
    obtain ⟨x0, x1, x2, x3, -⟩ := cells4 k0
    obtain ⟨y0, y1, y2, y3, yf⟩ := cells4 HR.out
    have hn : w.heap.size ≤ W.heap.size := by have := k1.size; omega
    have HSW := Lib.hid (HS.out.trans ((hb7.mono (by omega)).trans (k1.mono (by omega))))
    clear hx
    gi_wp2
    have hK' := (heap_set4 (w := W) (g := w.heap.size + 3) (i := w7.heap.size) (.int .u64 4) (.int .u64 0) (.int .u64 0) (.int .u64 0) (by omega)).trans hK
    have hsz : W.heap.size = ((((W.setCell ⟨w.heap.size + 3, 0, none⟩ (.int .u64 4)).setCell ⟨w.heap.size + 3, 1, none⟩ (.int .u64 0)).setCell ⟨w.heap.size + 3, 2, none⟩ (.int .u64 0)).setCell ⟨w.heap.size + 3, 3, none⟩ (.int .u64 0)).heap.size := by simp [World.setCell]
    refine ⟨by simp, .inl ⟨_, _, rfl, run_takeDeferred hK', ?_⟩⟩
    refine ⟨_, results_blk rfl _ rfl ((blk_set4 (.int .u64 4) (.int .u64 0) (.int .u64 0) (.int .u64 0) HR.out).putFar (by omega) _) Try.underlying27 rfl set_info, by rw [setC_4], ?_⟩
    exact put_below _ _ (below_set4 (.int .u64 4) (.int .u64 0) (.int .u64 0) (.int .u64 0) HSW.out (by omega)) (by omega) (by rw [← hsz]; omega)
  case stop =>
    rintro c pre W _ _ hf _
    exact hf.elim
end Go.Proofs.Ytmihoeholcaokaa
