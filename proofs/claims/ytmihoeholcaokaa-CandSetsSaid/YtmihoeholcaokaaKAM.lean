/- Package cand: either, both, how many, and the set of a list. -/
import Derived.Test.YtmihoeholcaokaaKAL
import Derived.Test.YtmihoeholcaokaaKAA
import Derived.Carry
import Derived.WalkKit
namespace Go.Proofs.Ytmihoeholcaokaa
open Go.RowKit

theorem setC_or (A B : Nat) : #[.int .u64 (bits .or .u64 (wd A 0 : Nat) (wd B 0 : Nat)), .int .u64 (bits .or .u64 (wd A 1 : Nat) (wd B 1 : Nat)), .int .u64 (bits .or .u64 (wd A 2 : Nat) (wd B 2 : Nat)), .int .u64 (bits .or .u64 (wd A 3 : Nat) (wd B 3 : Nat))] = setC (A ||| B) := by
  unfold setC
  rw [bits_or_u64_nat _ _ (wd_lt _ _) (wd_lt _ _), bits_or_u64_nat _ _ (wd_lt _ _) (wd_lt _ _), bits_or_u64_nat _ _ (wd_lt _ _) (wd_lt _ _), bits_or_u64_nat _ _ (wd_lt _ _) (wd_lt _ _), wd_or, wd_or, wd_or, wd_or]
theorem setC_and (A B : Nat) : #[.int .u64 (bits .and .u64 (wd A 0 : Nat) (wd B 0 : Nat)), .int .u64 (bits .and .u64 (wd A 1 : Nat) (wd B 1 : Nat)), .int .u64 (bits .and .u64 (wd A 2 : Nat) (wd B 2 : Nat)), .int .u64 (bits .and .u64 (wd A 3 : Nat) (wd B 3 : Nat))] = setC (A &&& B) := by
  unfold setC
  rw [bits_and_u64_nat _ _ (wd_lt _ _) (wd_lt _ _), bits_and_u64_nat _ _ (wd_lt _ _) (wd_lt _ _), bits_and_u64_nat _ _ (wd_lt _ _) (wd_lt _ _), bits_and_u64_nat _ _ (wd_lt _ _) (wd_lt _ _), wd_and, wd_and, wd_and, wd_and]
theorem sblock3 (w : World) (A B : Nat) : ∃ w3, ((w.alloc (.cells (setC A) 27)).alloc (.cells (setC B) 27)).alloc (.cells #[.int .u64 0, .int .u64 0, .int .u64 0, .int .u64 0] 27) = w3 ∧ Blk w3 w.heap.size 27 (setC A) ∧ Blk w3 (w.heap.size + 1) 27 (setC B) ∧ Blk w3 (w.heap.size + 2) 27 #[.int .u64 0, .int .u64 0, .int .u64 0, .int .u64 0] ∧ Below w.heap.size w w3 := by
  obtain ⟨w1, hw1, b1, S1⟩ := sblock w A
  obtain ⟨w2, hw2, b2, S2⟩ := sblock w1 B
  obtain ⟨w3, hw3, b3, S3⟩ := sblock w2 0
  have e1 : w1.heap.size = w.heap.size + 1 := by rw [← hw1]; simp
  have e2 : w2.heap.size = w.heap.size + 2 := by rw [← hw2]; simp [e1]
  rw [e1] at b2
  rw [e2] at b3
  have S12 := S1.trans (S2.mono S1.size)
  exact ⟨w3, by rw [hw1, hw2]; exact hw3, (b1.on S2).on S3, b2.on S3, b3, S12.trans (S3.mono S12.size)⟩
theorem cells4 {w : World} {g : Nat} {t : TypeId} {a b c d : Value} (h : Blk w g t #[a, b, c, d]) : w.cell? ⟨g, 0, none⟩ = some a ∧ w.cell? ⟨g, 1, none⟩ = some b ∧ w.cell? ⟨g, 2, none⟩ = some c ∧ w.cell? ⟨g, 3, none⟩ = some d ∧ ∀ i, w.frozen? ⟨g, i, none⟩ = false :=
  ⟨by rw [h.cell]; rfl, by rw [h.cell]; rfl, by rw [h.cell]; rfl, by rw [h.cell]; rfl, h.free⟩
theorem run_index_cell {P : Program} {t e : TypeId} {n : Nat} {d : TypeDesc} (hu : P.underlying t = some (.array n e)) (he : P.underlying e = some d) (hd : d.isRow = false) (hs : (P.info? e).map (·.size) = some 1) (cs : Array Value) (i : Nat) (ii : Int) (hii : ii = i) (hi : i < n) (v : Value) (hx : cs[i]? = some v) (w : World) :
    (Instr.index t (.agg cs) (.int .i64 ii)).run P w = .ok v w := by
  subst hii
  have hz : ∀ w, (sizeOf e).run P w = .ok 1 w := fun w => by
    cases hq : P.info? e with
    | none => simp [hq] at hs
    | some j =>
      have : j.size = 1 := by simpa [hq] using hs
      simp [sizeOf, typeInfo, hq, this]
  have ha : (isAgg e).run P w = .ok false w := by
    unfold isAgg
    rw [Sem.run_bind, run_underlying he w]
    cases d <;> first | rfl | simp_all [TypeDesc.isRow]
  have hi' : (asIntOf (Value.int IntKind.i64 i)).run P w = .ok (.i64, (i : Int)) w := rfl
  simp [Instr.index, run_underlying hu, hz, part, ha, hi', hx, hi]
theorem u64_info : (Try.prog.info? 25).map (·.size) = some 1 := by kernel_rfl
theorem index_set (cs : Array Value) (i : Nat) (ii : Int) (hii : ii = i) (hi : i < 4) (v : Value) (hx : cs[i]? = some v) (w : World) : (Instr.index 27 (.agg cs) (.int .i64 ii)).run Try.prog w = .ok v w :=
  run_index_cell (P := Try.prog) Try.underlying27 Try.underlying25 rfl u64_info cs i ii hii hi v hx w
set_option maxRecDepth 100000 in
set_option maxHeartbeats 4000000 in
theorem cand_Or (A B : Nat) (w : World) : Calls Try.prog 7 #[.agg (setC A), .agg (setC B)] w fun e w' => e = .returned (.agg (setC (A ||| B))) ∧ Below w.heap.size w w' := by
  obtain ⟨w3, hw3, b1, b2, b3, S⟩ := sblock3 w A B
  have HE := Lib.hid (setC_or A B)
  have HS := Lib.hid S
  have HB3 := Lib.hid b3
  have HB1 := Lib.hid b1
  obtain ⟨a0, a1, a2, a3, fz⟩ := cells4 b1
  have HLD := Lib.hid (run_load_all (P := Try.prog) (ty := 27) b2 Try.underlying27 rfl set_info)
  unfold setC at hw3 HLD HB1 ⊢
  have i0 := fun W => index_set #[.int .u64 (wd B 0 : Nat), .int .u64 (wd B 1 : Nat), .int .u64 (wd B 2 : Nat), .int .u64 (wd B 3 : Nat)] 0 0 rfl (by decide) _ rfl W
  have i1 := fun W => index_set #[.int .u64 (wd B 0 : Nat), .int .u64 (wd B 1 : Nat), .int .u64 (wd B 2 : Nat), .int .u64 (wd B 3 : Nat)] 1 1 rfl (by decide) _ rfl W
  have i2 := fun W => index_set #[.int .u64 (wd B 0 : Nat), .int .u64 (wd B 1 : Nat), .int .u64 (wd B 2 : Nat), .int .u64 (wd B 3 : Nat)] 2 2 rfl (by decide) _ rfl W
  have i3 := fun W => index_set #[.int .u64 (wd B 0 : Nat), .int .u64 (wd B 1 : Nat), .int .u64 (wd B 2 : Nat), .int .u64 (wd B 3 : Nat)] 3 3 rfl (by decide) _ rfl W
  clear b1 b2 b3 S
  go_enter Try.func7, Try.ntmps7
  go_wp2_with (first
    | ((with_reducible refine is_load 27 rfl ?_); (with_reducible refine wpList_load_run rfl rfl HLD.out ?_ ?_); (· rfl))
    | fail)
  refine wp_loop_rounds 5 ?_
  clear hw3 HLD
  rw [rounds_succ]
  go_wp2_with fail
  have k1 : Blk (w3.setCell ⟨w.heap.size, 0, none⟩ (.int .u64 (bits .or .u64 (wd A 0 : Nat) (wd B 0 : Nat)))) w.heap.size 27 #[.int .u64 (bits .or .u64 (wd A 0 : Nat) (wd B 0 : Nat)), .int .u64 (wd A 1 : Nat), .int .u64 (wd A 2 : Nat), .int .u64 (wd A 3 : Nat)] := HB1.out.put 0 (.int .u64 (bits .or .u64 (wd A 0 : Nat) (wd B 0 : Nat)))
  have k3 := HB3.out.far (p := ⟨w.heap.size, 0, none⟩) (by show w.heap.size + 2 ≠ w.heap.size; omega) (.int .u64 (bits .or .u64 (wd A 0 : Nat) (wd B 0 : Nat)))
  have kS := HS.out.setCell (p := ⟨w.heap.size, 0, none⟩) (Nat.le_refl _) (.int .u64 (bits .or .u64 (wd A 0 : Nat) (wd B 0 : Nat)))
  clear a0 a1 a2 a3 fz HB1 HB3 HS
  generalize w3.setCell ⟨w.heap.size, 0, none⟩ (.int .u64 (bits .or .u64 (wd A 0 : Nat) (wd B 0 : Nat))) = w4 at *
  obtain ⟨a0, a1, a2, a3, fz⟩ := cells4 k1
  have HB1 := Lib.hid k1
  have HB3 := Lib.hid k3
  have HS := Lib.hid kS
  clear k1 k3 kS
  rw [rounds_succ]
  go_wp2_with fail
  have k1 : Blk (w4.setCell ⟨w.heap.size, 1, none⟩ (.int .u64 (bits .or .u64 (wd A 1 : Nat) (wd B 1 : Nat)))) w.heap.size 27 #[.int .u64 (bits .or .u64 (wd A 0 : Nat) (wd B 0 : Nat)), .int .u64 (bits .or .u64 (wd A 1 : Nat) (wd B 1 : Nat)), .int .u64 (wd A 2 : Nat), .int .u64 (wd A 3 : Nat)] := HB1.out.put 1 (.int .u64 (bits .or .u64 (wd A 1 : Nat) (wd B 1 : Nat)))
  have k3 := HB3.out.far (p := ⟨w.heap.size, 1, none⟩) (by show w.heap.size + 2 ≠ w.heap.size; omega) (.int .u64 (bits .or .u64 (wd A 1 : Nat) (wd B 1 : Nat)))
  have kS := HS.out.setCell (p := ⟨w.heap.size, 1, none⟩) (Nat.le_refl _) (.int .u64 (bits .or .u64 (wd A 1 : Nat) (wd B 1 : Nat)))
  clear a0 a1 a2 a3 fz HB1 HB3 HS
  generalize w4.setCell ⟨w.heap.size, 1, none⟩ (.int .u64 (bits .or .u64 (wd A 1 : Nat) (wd B 1 : Nat))) = w5 at *
  obtain ⟨a0, a1, a2, a3, fz⟩ := cells4 k1
  have HB1 := Lib.hid k1
  have HB3 := Lib.hid k3
  have HS := Lib.hid kS
  clear k1 k3 kS
  rw [rounds_succ]
  go_wp2_with fail
  have k1 : Blk (w5.setCell ⟨w.heap.size, 2, none⟩ (.int .u64 (bits .or .u64 (wd A 2 : Nat) (wd B 2 : Nat)))) w.heap.size 27 #[.int .u64 (bits .or .u64 (wd A 0 : Nat) (wd B 0 : Nat)), .int .u64 (bits .or .u64 (wd A 1 : Nat) (wd B 1 : Nat)), .int .u64 (bits .or .u64 (wd A 2 : Nat) (wd B 2 : Nat)), .int .u64 (wd A 3 : Nat)] := HB1.out.put 2 (.int .u64 (bits .or .u64 (wd A 2 : Nat) (wd B 2 : Nat)))
  have k3 := HB3.out.far (p := ⟨w.heap.size, 2, none⟩) (by show w.heap.size + 2 ≠ w.heap.size; omega) (.int .u64 (bits .or .u64 (wd A 2 : Nat) (wd B 2 : Nat)))
  have kS := HS.out.setCell (p := ⟨w.heap.size, 2, none⟩) (Nat.le_refl _) (.int .u64 (bits .or .u64 (wd A 2 : Nat) (wd B 2 : Nat)))
  clear a0 a1 a2 a3 fz HB1 HB3 HS
  generalize w5.setCell ⟨w.heap.size, 2, none⟩ (.int .u64 (bits .or .u64 (wd A 2 : Nat) (wd B 2 : Nat))) = w6 at *
  obtain ⟨a0, a1, a2, a3, fz⟩ := cells4 k1
  have HB1 := Lib.hid k1
  have HB3 := Lib.hid k3
  have HS := Lib.hid kS
  clear k1 k3 kS
  rw [rounds_succ]
  go_wp2_with fail
  have k1 : Blk (w6.setCell ⟨w.heap.size, 3, none⟩ (.int .u64 (bits .or .u64 (wd A 3 : Nat) (wd B 3 : Nat)))) w.heap.size 27 #[.int .u64 (bits .or .u64 (wd A 0 : Nat) (wd B 0 : Nat)), .int .u64 (bits .or .u64 (wd A 1 : Nat) (wd B 1 : Nat)), .int .u64 (bits .or .u64 (wd A 2 : Nat) (wd B 2 : Nat)), .int .u64 (bits .or .u64 (wd A 3 : Nat) (wd B 3 : Nat))] := HB1.out.put 3 (.int .u64 (bits .or .u64 (wd A 3 : Nat) (wd B 3 : Nat)))
  have k3 := HB3.out.far (p := ⟨w.heap.size, 3, none⟩) (by show w.heap.size + 2 ≠ w.heap.size; omega) (.int .u64 (bits .or .u64 (wd A 3 : Nat) (wd B 3 : Nat)))
  have kS := HS.out.setCell (p := ⟨w.heap.size, 3, none⟩) (Nat.le_refl _) (.int .u64 (bits .or .u64 (wd A 3 : Nat) (wd B 3 : Nat)))
  clear a0 a1 a2 a3 fz HB1 HB3 HS
  generalize w6.setCell ⟨w.heap.size, 3, none⟩ (.int .u64 (bits .or .u64 (wd A 3 : Nat) (wd B 3 : Nat))) = w7 at *
  obtain ⟨a0, a1, a2, a3, fz⟩ := cells4 k1
  have HB1 := Lib.hid k1
  have HB3 := Lib.hid k3
  have HS := Lib.hid kS
  clear k1 k3 kS
  rw [rounds_succ]
  rw [HE.out] at HB1
  have HLD := Lib.hid (run_load_all (P := Try.prog) (ty := 27) HB1.out Try.underlying27 rfl set_info)
  have HST := Lib.hid (run_store_all (P := Try.prog) (ty := 27) (c' := setC (A ||| B)) HB3.out set_info rfl (setC_one _))
  go_wp2_with (first
    | ((with_reducible refine is_load 27 rfl ?_); (with_reducible refine wpList_load_run rfl rfl HLD.out ?_ ?_); (· rfl))
    | ((with_reducible refine is_store 27 rfl ?_); (with_reducible refine wpList_store_run rfl rfl HST.out ?_ ?_ ?_); (· rfl); (· rfl))
    | fail)
  refine bodyPost_ret (results_blk rfl _ rfl (HB3.out.setRow _) Try.underlying27 rfl set_info) rfl ?_
  exact ⟨rfl, below_row HS.out (by omega) _⟩
set_option maxRecDepth 100000 in
set_option maxHeartbeats 4000000 in
theorem cand_And (A B : Nat) (w : World) : Calls Try.prog 8 #[.agg (setC A), .agg (setC B)] w fun e w' => e = .returned (.agg (setC (A &&& B))) ∧ Below w.heap.size w w' := by
  obtain ⟨w3, hw3, b1, b2, b3, S⟩ := sblock3 w A B
  have HE := Lib.hid (setC_and A B)
  have HS := Lib.hid S
  have HB3 := Lib.hid b3
  have HB1 := Lib.hid b1
  obtain ⟨a0, a1, a2, a3, fz⟩ := cells4 b1
  have HLD := Lib.hid (run_load_all (P := Try.prog) (ty := 27) b2 Try.underlying27 rfl set_info)
  unfold setC at hw3 HLD HB1 ⊢
  have i0 := fun W => index_set #[.int .u64 (wd B 0 : Nat), .int .u64 (wd B 1 : Nat), .int .u64 (wd B 2 : Nat), .int .u64 (wd B 3 : Nat)] 0 0 rfl (by decide) _ rfl W
  have i1 := fun W => index_set #[.int .u64 (wd B 0 : Nat), .int .u64 (wd B 1 : Nat), .int .u64 (wd B 2 : Nat), .int .u64 (wd B 3 : Nat)] 1 1 rfl (by decide) _ rfl W
  have i2 := fun W => index_set #[.int .u64 (wd B 0 : Nat), .int .u64 (wd B 1 : Nat), .int .u64 (wd B 2 : Nat), .int .u64 (wd B 3 : Nat)] 2 2 rfl (by decide) _ rfl W
  have i3 := fun W => index_set #[.int .u64 (wd B 0 : Nat), .int .u64 (wd B 1 : Nat), .int .u64 (wd B 2 : Nat), .int .u64 (wd B 3 : Nat)] 3 3 rfl (by decide) _ rfl W
  clear b1 b2 b3 S
  go_enter Try.func8, Try.ntmps8
  go_wp2_with (first
    | ((with_reducible refine is_load 27 rfl ?_); (with_reducible refine wpList_load_run rfl rfl HLD.out ?_ ?_); (· rfl))
    | fail)
  refine wp_loop_rounds 5 ?_
  clear hw3 HLD
  rw [rounds_succ]
  go_wp2_with fail
  have k1 : Blk (w3.setCell ⟨w.heap.size, 0, none⟩ (.int .u64 (bits .and .u64 (wd A 0 : Nat) (wd B 0 : Nat)))) w.heap.size 27 #[.int .u64 (bits .and .u64 (wd A 0 : Nat) (wd B 0 : Nat)), .int .u64 (wd A 1 : Nat), .int .u64 (wd A 2 : Nat), .int .u64 (wd A 3 : Nat)] := HB1.out.put 0 (.int .u64 (bits .and .u64 (wd A 0 : Nat) (wd B 0 : Nat)))
  have k3 := HB3.out.far (p := ⟨w.heap.size, 0, none⟩) (by show w.heap.size + 2 ≠ w.heap.size; omega) (.int .u64 (bits .and .u64 (wd A 0 : Nat) (wd B 0 : Nat)))
  have kS := HS.out.setCell (p := ⟨w.heap.size, 0, none⟩) (Nat.le_refl _) (.int .u64 (bits .and .u64 (wd A 0 : Nat) (wd B 0 : Nat)))
  clear a0 a1 a2 a3 fz HB1 HB3 HS
  generalize w3.setCell ⟨w.heap.size, 0, none⟩ (.int .u64 (bits .and .u64 (wd A 0 : Nat) (wd B 0 : Nat))) = w4 at *
  obtain ⟨a0, a1, a2, a3, fz⟩ := cells4 k1
  have HB1 := Lib.hid k1
  have HB3 := Lib.hid k3
  have HS := Lib.hid kS
  clear k1 k3 kS
  rw [rounds_succ]
  go_wp2_with fail
  have k1 : Blk (w4.setCell ⟨w.heap.size, 1, none⟩ (.int .u64 (bits .and .u64 (wd A 1 : Nat) (wd B 1 : Nat)))) w.heap.size 27 #[.int .u64 (bits .and .u64 (wd A 0 : Nat) (wd B 0 : Nat)), .int .u64 (bits .and .u64 (wd A 1 : Nat) (wd B 1 : Nat)), .int .u64 (wd A 2 : Nat), .int .u64 (wd A 3 : Nat)] := HB1.out.put 1 (.int .u64 (bits .and .u64 (wd A 1 : Nat) (wd B 1 : Nat)))
  have k3 := HB3.out.far (p := ⟨w.heap.size, 1, none⟩) (by show w.heap.size + 2 ≠ w.heap.size; omega) (.int .u64 (bits .and .u64 (wd A 1 : Nat) (wd B 1 : Nat)))
  have kS := HS.out.setCell (p := ⟨w.heap.size, 1, none⟩) (Nat.le_refl _) (.int .u64 (bits .and .u64 (wd A 1 : Nat) (wd B 1 : Nat)))
  clear a0 a1 a2 a3 fz HB1 HB3 HS
  generalize w4.setCell ⟨w.heap.size, 1, none⟩ (.int .u64 (bits .and .u64 (wd A 1 : Nat) (wd B 1 : Nat))) = w5 at *
  obtain ⟨a0, a1, a2, a3, fz⟩ := cells4 k1
  have HB1 := Lib.hid k1
  have HB3 := Lib.hid k3
  have HS := Lib.hid kS
  clear k1 k3 kS
  rw [rounds_succ]
  go_wp2_with fail
  have k1 : Blk (w5.setCell ⟨w.heap.size, 2, none⟩ (.int .u64 (bits .and .u64 (wd A 2 : Nat) (wd B 2 : Nat)))) w.heap.size 27 #[.int .u64 (bits .and .u64 (wd A 0 : Nat) (wd B 0 : Nat)), .int .u64 (bits .and .u64 (wd A 1 : Nat) (wd B 1 : Nat)), .int .u64 (bits .and .u64 (wd A 2 : Nat) (wd B 2 : Nat)), .int .u64 (wd A 3 : Nat)] := HB1.out.put 2 (.int .u64 (bits .and .u64 (wd A 2 : Nat) (wd B 2 : Nat)))
  have k3 := HB3.out.far (p := ⟨w.heap.size, 2, none⟩) (by show w.heap.size + 2 ≠ w.heap.size; omega) (.int .u64 (bits .and .u64 (wd A 2 : Nat) (wd B 2 : Nat)))
  have kS := HS.out.setCell (p := ⟨w.heap.size, 2, none⟩) (Nat.le_refl _) (.int .u64 (bits .and .u64 (wd A 2 : Nat) (wd B 2 : Nat)))
  clear a0 a1 a2 a3 fz HB1 HB3 HS
  generalize w5.setCell ⟨w.heap.size, 2, none⟩ (.int .u64 (bits .and .u64 (wd A 2 : Nat) (wd B 2 : Nat))) = w6 at *
  obtain ⟨a0, a1, a2, a3, fz⟩ := cells4 k1
  have HB1 := Lib.hid k1
  have HB3 := Lib.hid k3
  have HS := Lib.hid kS
  clear k1 k3 kS
  rw [rounds_succ]
  go_wp2_with fail
  have k1 : Blk (w6.setCell ⟨w.heap.size, 3, none⟩ (.int .u64 (bits .and .u64 (wd A 3 : Nat) (wd B 3 : Nat)))) w.heap.size 27 #[.int .u64 (bits .and .u64 (wd A 0 : Nat) (wd B 0 : Nat)), .int .u64 (bits .and .u64 (wd A 1 : Nat) (wd B 1 : Nat)), .int .u64 (bits .and .u64 (wd A 2 : Nat) (wd B 2 : Nat)), .int .u64 (bits .and .u64 (wd A 3 : Nat) (wd B 3 : Nat))] := HB1.out.put 3 (.int .u64 (bits .and .u64 (wd A 3 : Nat) (wd B 3 : Nat)))
  have k3 := HB3.out.far (p := ⟨w.heap.size, 3, none⟩) (by show w.heap.size + 2 ≠ w.heap.size; omega) (.int .u64 (bits .and .u64 (wd A 3 : Nat) (wd B 3 : Nat)))
  have kS := HS.out.setCell (p := ⟨w.heap.size, 3, none⟩) (Nat.le_refl _) (.int .u64 (bits .and .u64 (wd A 3 : Nat) (wd B 3 : Nat)))
  clear a0 a1 a2 a3 fz HB1 HB3 HS
  generalize w6.setCell ⟨w.heap.size, 3, none⟩ (.int .u64 (bits .and .u64 (wd A 3 : Nat) (wd B 3 : Nat))) = w7 at *
  obtain ⟨a0, a1, a2, a3, fz⟩ := cells4 k1
  have HB1 := Lib.hid k1
  have HB3 := Lib.hid k3
  have HS := Lib.hid kS
  clear k1 k3 kS
  rw [rounds_succ]
  rw [HE.out] at HB1
  have HLD := Lib.hid (run_load_all (P := Try.prog) (ty := 27) HB1.out Try.underlying27 rfl set_info)
  have HST := Lib.hid (run_store_all (P := Try.prog) (ty := 27) (c' := setC (A &&& B)) HB3.out set_info rfl (setC_one _))
  go_wp2_with (first
    | ((with_reducible refine is_load 27 rfl ?_); (with_reducible refine wpList_load_run rfl rfl HLD.out ?_ ?_); (· rfl))
    | ((with_reducible refine is_store 27 rfl ?_); (with_reducible refine wpList_store_run rfl rfl HST.out ?_ ?_ ?_); (· rfl); (· rfl))
    | fail)
  refine bodyPost_ret (results_blk rfl _ rfl (HB3.out.setRow _) Try.underlying27 rfl set_info) rfl ?_
  exact ⟨rfl, below_row HS.out (by omega) _⟩
end Go.Proofs.Ytmihoeholcaokaa

/- Package cand: the set of a list, how many. -/
namespace Go.Proofs.Ytmihoeholcaokaa
open Go.RowKit

theorem sblock2 (w : World) : ∃ w2, (w.alloc (.cells #[.int .u64 0, .int .u64 0, .int .u64 0, .int .u64 0] 27)).alloc (.cells #[.int .u64 0, .int .u64 0, .int .u64 0, .int .u64 0] 27) = w2 ∧ Blk w2 w.heap.size 27 (setC 0) ∧ Blk w2 (w.heap.size + 1) 27 (setC 0) ∧ Below w.heap.size w w2 := by
  obtain ⟨w1, hw1, b1, S1⟩ := sblock w 0
  obtain ⟨w2, hw2, b2, S2⟩ := sblock w1 0
  have e1 : w1.heap.size = w.heap.size + 1 := by rw [← hw1]; simp
  rw [e1] at b2
  exact ⟨w2, by rw [← hw2, ← hw1]; rfl, b1.on S2, b2, S1.trans (S2.mono S1.size)⟩
theorem fold_take (zs : List Int) {k : Nat} (hk : k < zs.length) : (zs.take (k + 1)).foldl withB 0 = withB ((zs.take k).foldl withB 0) (zs.getD k 0) := by
  rw [List.take_add_one, List.foldl_append]
  simp [List.getD, List.getElem?_eq_getElem hk]
set_option maxRecDepth 100000 in
set_option maxHeartbeats 4000000 in
theorem cand_Of (zs : List Int) (A : Option Addr) (cap n : Nat) (w : World) (hn : n ≤ w.heap.size) (hr : Rd w n .i64 A zs) (hl : zs.length ≤ 1099511627776) :
    Calls Try.prog 5 #[.slice A zs.length cap] w fun e w' => e = .returned (.agg (setC (ofB' zs))) ∧ Below w.heap.size w w' := by
  obtain ⟨w2, hw2, b1, b2, S⟩ := sblock2 w
  obtain ⟨m, hm⟩ : ∃ m, zs.length = m := ⟨_, rfl⟩
  have HM := Lib.hid hm
  have hmb : (m : Int) ≤ 1099511627776 := by omega
  have HR := Lib.hid (fun W (hW : Below w.heap.size w W) => hr.below (hW.mono hn))
  have HB1 := Lib.hid b1
  have HB2 := Lib.hid b2
  have HS := Lib.hid S
  rw [hm]
  clear b1 b2 S hm hr hl hn
  go_enter Try.func5, Try.ntmps5
  go_wp2_with fail
  clear hw2
  go_loopw [5, 8] (fun _ i wr => ∃ k : Nat, k ≤ m ∧ i = .int .i64 (k : Int) ∧ Hid (Below w.heap.size w wr) ∧ Hid (Blk wr w.heap.size 27 (setC 0)) ∧ Hid (Blk wr (w.heap.size + 1) 27 (setC ((zs.take k).foldl withB 0)))) (fun _ i _ => m - (intOf i).toNat)
  case atStart => exact ⟨0, by omega, rfl, HS, HB1, HB2⟩
  case round =>
    clear HS HB1 HB2
    obtain ⟨k, hk, rfl, HS, HB1, HB2⟩ := hrel
    by_cases hlt : k < m
    · obtain ⟨b, o, rfl, -, hc⟩ := (HR.out wr HS.out).get (i := k) (by rw [HM.out]; exact hlt)
      have HF := Lib.hid (fold_take zs (k := k) (by rw [HM.out]; exact hlt))
      have HLD := Lib.hid (run_load_all (P := Try.prog) (ty := 27) HB2.out Try.underlying27 rfl set_info)
      generalize zs.getD k 0 = c at *
      generalize (zs.take k).foldl withB 0 = B at *
      have HWI := Lib.hid (fun W => cand_With B c W)
      go_wp2_with (first
        | ((with_reducible refine is_load 27 rfl ?_); (with_reducible refine wpList_load_run rfl rfl HLD.out ?_ ?_); (· rfl))
        | (go_at_call 9; refine (HWI.out _).mono ?_; rintro e w3 ⟨rfl, hb3⟩; have HB2' := Lib.hid (HB2.out.on hb3); have HB1' := Lib.hid (HB1.out.on hb3); have HS3 := Lib.hid (HS.out.trans (hb3.mono HS.out.size)); have HST := Lib.hid (run_store_all (P := Try.prog) (ty := 27) (c' := setC (withB B c)) HB2'.out set_info rfl (setC_one _)); clear hb3)
        | ((with_reducible refine is_store 27 rfl ?_); (with_reducible refine wpList_store_run rfl rfl HST.out ?_ ?_ ?_); (· rfl); (· rfl))
        | fail)
      go_roundw
      case rel =>
        refine ⟨k + 1, by omega, by go_num, Lib.hid (below_row HS3.out (Nat.le_succ _) _), Lib.hid (HB1'.out.farRow (by omega) _), Lib.hid ?_⟩
        rw [HF.out]
        exact HB2'.out.setRow _
      case measure => simp [intOf]; omega
    · have e : k = m := by omega
      have HE : Hid ((zs.take k).foldl withB 0 = ofB' zs) := Lib.hid (by rw [List.take_of_length_le (by rw [HM.out]; omega)]; rfl)
      rw [HE.out] at HB2
      have HLD := Lib.hid (run_load_all (P := Try.prog) (ty := 27) HB2.out Try.underlying27 rfl set_info)
      have HST := Lib.hid (run_store_all (P := Try.prog) (ty := 27) (c' := setC (ofB' zs)) HB1.out set_info rfl (setC_one _))
      clear e
      go_wp2_with (first
        | ((with_reducible refine is_load 27 rfl ?_); (with_reducible refine wpList_load_run rfl rfl HLD.out ?_ ?_); (· rfl))
        | ((with_reducible refine is_store 27 rfl ?_); (with_reducible refine wpList_store_run rfl rfl HST.out ?_ ?_ ?_); (· rfl); (· rfl))
        | fail)
      refine bodyPost_ret (results_blk rfl _ rfl (HB1.out.setRow _) Try.underlying27 rfl set_info) rfl ?_
      exact ⟨rfl, below_row HS.out (Nat.le_refl _) _⟩
set_option maxRecDepth 100000 in
set_option maxHeartbeats 4000000 in
theorem cand_Len (B : Nat) (w : World) : Calls Try.prog 11 #[.agg (setC B)] w fun e w' => e = .returned (.int .i64 (pcn B 256 : Nat)) ∧ Below w.heap.size w w' := by
  obtain ⟨w1, hw1, b1, S⟩ := sblock w B
  have HS := Lib.hid S
  have HP := Lib.hid (pcn_all B)
  have HLD := Lib.hid (run_load_all (P := Try.prog) (ty := 27) b1 Try.underlying27 rfl set_info)
  have i0 := fun W => index_set #[.int .u64 (wd B 0 : Nat), .int .u64 (wd B 1 : Nat), .int .u64 (wd B 2 : Nat), .int .u64 (wd B 3 : Nat)] 0 0 rfl (by decide) _ rfl W
  have i1 := fun W => index_set #[.int .u64 (wd B 0 : Nat), .int .u64 (wd B 1 : Nat), .int .u64 (wd B 2 : Nat), .int .u64 (wd B 3 : Nat)] 1 1 rfl (by decide) _ rfl W
  have i2 := fun W => index_set #[.int .u64 (wd B 0 : Nat), .int .u64 (wd B 1 : Nat), .int .u64 (wd B 2 : Nat), .int .u64 (wd B 3 : Nat)] 2 2 rfl (by decide) _ rfl W
  have i3 := fun W => index_set #[.int .u64 (wd B 0 : Nat), .int .u64 (wd B 1 : Nat), .int .u64 (wd B 2 : Nat), .int .u64 (wd B 3 : Nat)] 3 3 rfl (by decide) _ rfl W
  have HO := Lib.hid (fun k W => bits_Ones (wd B k) (wd_lt B k) W)
  have p0 : ((pcn (wd B 0) 64 : Nat) : Int) ≤ 64 := by have := pcn_le (wd B 0) 64; omega
  have p1 : ((pcn (wd B 1) 64 : Nat) : Int) ≤ 64 := by have := pcn_le (wd B 1) 64; omega
  have p2 : ((pcn (wd B 2) 64 : Nat) : Int) ≤ 64 := by have := pcn_le (wd B 2) 64; omega
  have p3 : ((pcn (wd B 3) 64 : Nat) : Int) ≤ 64 := by have := pcn_le (wd B 3) 64; omega
  unfold setC at hw1 HLD ⊢
  clear b1 S
  go_enter Try.func11, Try.ntmps11
  go_wp2_with (first
    | ((with_reducible refine is_load 27 rfl ?_); (with_reducible refine wpList_load_run rfl rfl HLD.out ?_ ?_); (· rfl))
    | fail)
  refine wp_loop_rounds 5 ?_
  clear hw1 HLD
  rw [rounds_succ]
  go_wp2_with (first | (go_at_call 14; refine (HO.out 0 _).mono ?_; rintro e w' ⟨rfl, rfl⟩) | fail)
  rw [rounds_succ]
  go_wp2_with (first | (go_at_call 14; refine (HO.out 1 _).mono ?_; rintro e w' ⟨rfl, rfl⟩) | fail)
  rw [rounds_succ]
  go_wp2_with (first | (go_at_call 14; refine (HO.out 2 _).mono ?_; rintro e w' ⟨rfl, rfl⟩) | fail)
  rw [rounds_succ]
  go_wp2_with (first | (go_at_call 14; refine (HO.out 3 _).mono ?_; rintro e w' ⟨rfl, rfl⟩) | fail)
  rw [rounds_succ]
  go_wp2_with fail
  go_ret
  refine ⟨?_, HS.out⟩
  rw [HP.out]
  simp
end Go.Proofs.Ytmihoeholcaokaa
