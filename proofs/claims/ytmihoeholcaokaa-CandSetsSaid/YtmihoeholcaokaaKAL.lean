/- Package cand: the functions on sets. -/
import Derived.Test.YtmihoeholcaokaaKAB
import Derived.Test.YtmihoeholcaokaaKAC
import Derived.Test.YtmihoeholcaokaaKAH
import Derived.Test.YtmihoeholcaokaaKAK
import Derived.LoopN
import Derived.Test.YtmihoeholcaokaaKAJ
namespace Go.Proofs.Ytmihoeholcaokaa
open Go.RowKit

theorem set_info : (Try.prog.info? 27).map (·.size) = some 4 := by kernel_rfl
theorem wrap_u (n : Nat) (h : n < 18446744073709551616) : IntKind.u64.wrap (n : Int) = n := by
  have e : IntKind.u64.wrap (n : Int) = (n : Int) % 18446744073709551616 := by simp [IntKind.wrap, IntKind.bits, IntKind.signed]
  rw [e]
  omega
theorem wrap_i (n : Nat) (h : n < 9223372036854775808) : wrap64 (n : Int) = n := by
  unfold wrap64
  omega
theorem leaf1 (x : Nat) (hx : x < 18446744073709551616) : IntKind.u64.wrap (bits .and .u64 ((x : Int) / 2) 6148914691236517205 + bits .and .u64 (x : Int) 6148914691236517205) = (pg1 6148914691236517205 x : Nat) := by
  have h1 : x / 2 &&& 6148914691236517205 ≤ 6148914691236517205 := Nat.and_le_right
  have h2 : x &&& 6148914691236517205 ≤ 6148914691236517205 := Nat.and_le_right
  rw [show ((x : Int) / 2) = ((x / 2 : Nat) : Int) by omega, show (6148914691236517205 : Int) = ((6148914691236517205 : Nat) : Int) from rfl, bits_and_u64_nat _ _ (by omega) (by decide), bits_and_u64_nat _ _ hx (by decide), ← Int.natCast_add, wrap_u _ (by omega)]
  rfl
theorem leaf2 (x : Nat) (hx : x < 18446744073709551616) : IntKind.u64.wrap (bits .and .u64 ((x : Int) / 4) 3689348814741910323 + bits .and .u64 (x : Int) 3689348814741910323) = (pg2 3689348814741910323 x : Nat) ∧ pg2 3689348814741910323 x ≤ 7378697629483820646 := by
  have h1 : x / 4 &&& 3689348814741910323 ≤ 3689348814741910323 := Nat.and_le_right
  have h2 : x &&& 3689348814741910323 ≤ 3689348814741910323 := Nat.and_le_right
  rw [show ((x : Int) / 4) = ((x / 4 : Nat) : Int) by omega, show (3689348814741910323 : Int) = ((3689348814741910323 : Nat) : Int) from rfl, bits_and_u64_nat _ _ (by omega) (by decide), bits_and_u64_nat _ _ hx (by decide), ← Int.natCast_add, wrap_u _ (by omega)]
  exact ⟨rfl, by unfold pg2; omega⟩
theorem leaf3 (x : Nat) (hx : x ≤ 7378697629483820646) : bits .and .u64 (IntKind.u64.wrap ((x : Int) / 16 + (x : Int))) 1085102592571150095 = (pg3 1085102592571150095 x : Nat) := by
  rw [show ((x : Int) / 16 + x) = ((x / 16 + x : Nat) : Int) by omega, wrap_u _ (by omega), show (1085102592571150095 : Int) = ((1085102592571150095 : Nat) : Int) from rfl, bits_and_u64_nat _ _ (by omega) (by decide)]
  rfl
theorem pg1_lt (x : Nat) : pg1 6148914691236517205 x < 18446744073709551616 := by
  have h1 : x / 2 &&& 6148914691236517205 ≤ 6148914691236517205 := Nat.and_le_right
  have h2 : x &&& 6148914691236517205 ≤ 6148914691236517205 := Nat.and_le_right
  unfold pg1
  omega
theorem pg_eq (x : Nat) : pg3 1085102592571150095 (pg2 3689348814741910323 (pg1 6148914691236517205 x)) = pg 8 x := rfl
theorem leafZ (x : Nat) (hx : x < 18446744073709551616) : bits .and .i64 (wrap64 (IntKind.u64.wrap (IntKind.u64.wrap (IntKind.u64.wrap ((pg 8 x : Nat) + (pg 8 x : Nat) / 256 : Int) + IntKind.u64.wrap ((pg 8 x : Nat) + (pg 8 x : Nat) / 256 : Int) / 65536) + IntKind.u64.wrap (IntKind.u64.wrap ((pg 8 x : Nat) + (pg 8 x : Nat) / 256 : Int) + IntKind.u64.wrap ((pg 8 x : Nat) + (pg 8 x : Nat) / 256 : Int) / 65536) / 4294967296))) 127 = (pcn x 64 : Nat) := by
  obtain ⟨h1, h2⟩ := ones64_pc x hx
  rw [← h1]
  unfold ones64
  generalize pg 8 x = z at *
  dsimp only at h2 ⊢
  have e1 : IntKind.u64.wrap ((z : Int) + (z : Int) / 256) = ((z + z / 256 : Nat) : Int) := by rw [← wrap_u (z + z / 256) (by omega)]; congr 1
  rw [e1]
  generalize z + z / 256 = a at *
  have e2 : IntKind.u64.wrap ((a : Int) + (a : Int) / 65536) = ((a + a / 65536 : Nat) : Int) := by rw [← wrap_u (a + a / 65536) (by omega)]; congr 1
  rw [e2]
  generalize a + a / 65536 = b at *
  have e3 : IntKind.u64.wrap ((b : Int) + (b : Int) / 4294967296) = ((b + b / 4294967296 : Nat) : Int) := by rw [← wrap_u (b + b / 4294967296) (by omega)]; congr 1
  rw [e3, wrap_i _ (by omega), show (127 : Int) = 2 ^ 7 - 1 from rfl, and_mask _ _ (by decide)]
  omega
set_option maxRecDepth 100000 in
theorem bits_Ones (x : Nat) (hx : x < 2 ^ 64) (w : World) : Calls Try.prog 14 #[.int .u64 (x : Nat)] w fun e w' => e = .returned (.int .i64 (pcn x 64 : Nat)) ∧ w' = w := by
  go_enter Try.func14, Try.ntmps14
  go_wp2
  simp only [leaf1 x hx]
  simp only [(leaf2 _ (pg1_lt x)).1]
  simp only [leaf3 _ (leaf2 _ (pg1_lt x)).2, pg_eq]
  simp only [leafZ x hx]
  go_ret
  exact ⟨rfl, rfl⟩
/-! ### A set's methods -/
theorem setC_one (B : Nat) : (setC B).all (·.oneCell') = true := by simp [setC, Value.oneCell']
theorem sblock (w : World) (B : Nat) : ∃ w1, w.alloc (.cells (setC B) 27) = w1 ∧ Blk w1 w.heap.size 27 (setC B) ∧ Below w.heap.size w w1 :=
  ⟨_, rfl, Blk.fresh w _ _, below_alloc w _⟩
theorem has_bit (B n : Nat) : (bits .and .u64 (((wd B (n / 64) : Nat) : Int) / 2 ^ (n % 64)) 1 == 1) = B.testBit n := by
  have e : 64 * (n / 64) + n % 64 = n := by omega
  have h := wd_bit B (n / 64) (n % 64) (by omega)
  rw [e] at h
  have hl : wd B (n / 64) / 2 ^ (n % 64) < 18446744073709551616 := Nat.lt_of_le_of_lt (Nat.div_le_self _ _) (wd_lt _ _)
  rw [show ((wd B (n / 64) : Nat) : Int) / 2 ^ (n % 64) = ((wd B (n / 64) / 2 ^ (n % 64) : Nat) : Int) by simp, show (1 : Int) = ((1 : Nat) : Int) from rfl, bits_and_u64_nat _ _ hl (by decide), Nat.and_one_is_mod, h]
  cases B.testBit n <;> rfl
set_option maxRecDepth 100000 in
set_option maxHeartbeats 4000000 in
theorem cand_Has (B : Nat) (n : Int) (w : World) : Calls Try.prog 6 #[.agg (setC B), .int .i64 n] w fun e w' => e = .returned (.bool (hasB B n)) ∧ Below w.heap.size w w' := by
  obtain ⟨w1, hw1, b1, S⟩ := sblock w B
  have HS := Lib.hid S
  unfold hasB
  by_cases h0 : 0 ≤ n
  · by_cases h1 : n < 256
    · obtain ⟨m, rfl⟩ : ∃ m : Nat, n = m := ⟨n.toNat, by omega⟩
      have hk : m / 64 < 4 := by omega
      have hc : w1.cell? ⟨w.heap.size, m / 64, none⟩ = some (.int .u64 (wd B (m / 64) : Nat)) := by rw [b1.cell]; exact setC_get B _ hk
      have HB := Lib.hid (has_bit B m)
      clear b1 S
      go_enter Try.func6, Try.ntmps6
      go_wp2
      simp only [HB.out]
      go_ret
      refine ⟨?_, HS.out⟩
      rw [decide_eq_true h0, decide_eq_true h1]
      simp
    · clear b1 S
      go_enter Try.func6, Try.ntmps6
      go_wp2
      go_ret
      refine ⟨?_, HS.out⟩
      rw [decide_eq_false (p := n < 256) (by omega)]
      simp
  · clear b1 S
    go_enter Try.func6, Try.ntmps6
    go_wp2
    go_ret
    refine ⟨?_, HS.out⟩
    rw [decide_eq_false (p := 0 ≤ n) (by omega)]
    simp
set_option maxRecDepth 100000 in
theorem setC_with (B k j : Nat) (hk : k < 4) (hj : j < 64) : (setC B).setIfInBounds k (.int .u64 (bits .or .u64 (wd B k : Nat) (IntKind.u64.wrap (2 ^ min j 64)))) = setC (withB B (64 * k + j : Nat)) := by
  have hw : (2 : Int) ^ j = ((2 ^ j : Nat) : Int) := by simp
  have hp : 2 ^ j < 2 ^ 64 := Nat.pow_lt_pow_right (by decide) hj
  rw [Nat.min_eq_left (by omega), hw, wrap_u _ hp, bits_or_u64_nat _ _ (wd_lt _ _) hp, wd_with B k j hj]
  have e : withB B (64 * k + j : Nat) = B ||| 2 ^ (64 * k + j) := by unfold withB; rw [if_pos ⟨by omega, by omega⟩]; rfl
  rw [e]
  have h0 := fun i (h : k ≠ i) => wd_else B i (64 * k + j) (by omega)
  unfold setC
  match k, hk with
  | 0, _ => rw [h0 1 (by decide), h0 2 (by decide), h0 3 (by decide)]; rfl
  | 1, _ => rw [h0 0 (by decide), h0 2 (by decide), h0 3 (by decide)]; rfl
  | 2, _ => rw [h0 0 (by decide), h0 1 (by decide), h0 3 (by decide)]; rfl
  | 3, _ => rw [h0 0 (by decide), h0 1 (by decide), h0 2 (by decide)]; rfl
set_option maxRecDepth 100000 in
set_option maxHeartbeats 4000000 in
theorem cand_With (B : Nat) (n : Int) (w : World) : Calls Try.prog 9 #[.agg (setC B), .int .i64 n] w fun e w' => e = .returned (.agg (setC (withB B n))) ∧ Below w.heap.size w w' := by
  obtain ⟨w1, hw1, b1, S⟩ := sblock w B
  obtain ⟨w2, hw2, b2, S2⟩ := sblock w1 0
  have hz : setC 0 = #[.int .u64 0, .int .u64 0, .int .u64 0, .int .u64 0] := rfl
  rw [hz] at hw2 b2
  have HS := Lib.hid (S.trans (S2.mono S.size))
  have HB := Lib.hid (b1.on S2)
  have HB2 := Lib.hid b2
  have HSZ := Lib.hid (show w.heap.size < w1.heap.size by rw [← hw1]; simp)
  clear b1 S b2 S2
  by_cases h0 : 0 ≤ n ∧ n < 256
  · obtain ⟨m, rfl⟩ : ∃ m : Nat, n = m := ⟨n.toNat, by omega⟩
    have h00 := h0.1
    have h1 := h0.2
    clear h0
    obtain ⟨k, j, hk, hj, hm⟩ : ∃ k j : Nat, k < 4 ∧ j < 64 ∧ m = 64 * k + j := ⟨m / 64, m % 64, by omega, by omega, by omega⟩
    have hc : w2.cell? ⟨w.heap.size, k, none⟩ = some (.int .u64 (wd B k : Nat)) := by rw [HB.out.cell]; exact setC_get B _ hk
    have hf := HB.out.free k
    have q1 : IntKind.i64.wrap ((m : Int) / 64) = (k : Int) := by simp [IntKind.wrap, IntKind.bits, IntKind.signed]; omega
    have hi : 0 ≤ (k : Int) ∧ (k : Int) < 4 := by omega
    have q2 : (m : Int).tmod 64 = (j : Int) := by rw [Int.tmod_eq_emod_of_nonneg (by omega)]; omega
    have hj0 : 0 ≤ (j : Int) := by omega
    have HW := Lib.hid (setC_with B k j hk hj)
    have HP := Lib.hid (HB.out.put k (.int .u64 (bits .or .u64 (wd B k : Nat) (IntKind.u64.wrap (2 ^ min j 64)))))
    rw [HW.out] at HP
    rw [← hm] at HP
    obtain ⟨w3, hw3⟩ : ∃ w3, (w2.setCell ⟨w.heap.size, k, none⟩ (.int .u64 (bits .or .u64 (wd B k : Nat) (IntKind.u64.wrap (2 ^ min j 64))))).drew = w3 := ⟨_, rfl⟩
    have HB3 : Hid (Blk w3 w.heap.size 27 (setC (withB B m))) := Lib.hid (by rw [← hw3]; exact HP.out.drew)
    have HB4 : Hid (Blk w3 w1.heap.size 27 #[.int .u64 0, .int .u64 0, .int .u64 0, .int .u64 0]) := Lib.hid (by rw [← hw3]; exact (HB2.out.far (by show w1.heap.size ≠ w.heap.size; have := HSZ.out; omega) _).drew)
    have HS3 : Hid (Below w.heap.size w w3) := Lib.hid (by rw [← hw3]; exact below_drawn (HS.out.setCell (p := ⟨w.heap.size, k, none⟩) (Nat.le_refl _) _))
    have HLD := Lib.hid (run_load_all (P := Try.prog) (ty := 27) HB3.out Try.underlying27 rfl set_info)
    have HST := Lib.hid (run_store_all (P := Try.prog) (ty := 27) (c' := setC (withB B m)) HB4.out set_info rfl (setC_one _))
    clear HW hm hk hj HP
    go_enter Try.func9, Try.ntmps9
    go_wp2_with fail
    refine wp_region_still_tail 9 (by kernel_rfl) (by kernel_rfl) ?_
    simp only [List.take_succ_cons, List.take_zero, List.drop_succ_cons, List.drop_zero]
    repeat still_step
    refine wpStill_nil ?_
    go_wp2_with (first
      | ((with_reducible refine is_load 27 rfl ?_); (with_reducible refine wpList_load_run rfl rfl HLD.out ?_ ?_); (· rfl))
      | ((with_reducible refine is_store 27 rfl ?_); (with_reducible refine wpList_store_run rfl rfl HST.out ?_ ?_ ?_); (· rfl); (· rfl))
      | fail)
    refine bodyPost_ret (results_blk rfl _ rfl (HB4.out.setRow _) Try.underlying27 rfl set_info) rfl ?_
    exact ⟨rfl, below_row HS3.out (by have := HSZ.out; omega) _⟩
  · have hwB : withB B n = B := if_neg h0
    rw [hwB]
    have HLD := Lib.hid (run_load_all (P := Try.prog) (ty := 27) HB.out Try.underlying27 rfl set_info)
    have HST := Lib.hid (run_store_all (P := Try.prog) (ty := 27) (c' := setC B) HB2.out set_info rfl (setC_one _))
    have HX : Hid (¬ (0 ≤ n ∧ n < 256)) := Lib.hid h0
    by_cases h00 : 0 ≤ n
    · have h1 : ¬ n < 256 := fun h => h0 ⟨h00, h⟩
      clear h0
      go_enter Try.func9, Try.ntmps9
      go_wp2_with (first
        | ((with_reducible refine is_load 27 rfl ?_); (with_reducible refine wpList_load_run rfl rfl HLD.out ?_ ?_); (· rfl))
        | ((with_reducible refine is_store 27 rfl ?_); (with_reducible refine wpList_store_run rfl rfl HST.out ?_ ?_ ?_); (· rfl); (· rfl))
        | fail)
      refine bodyPost_ret (results_blk rfl _ rfl (HB2.out.setRow _) Try.underlying27 rfl set_info) rfl ?_
      exact ⟨rfl, below_row HS.out (by have := HSZ.out; omega) _⟩
    · clear h0
      go_enter Try.func9, Try.ntmps9
      go_wp2_with (first
        | ((with_reducible refine is_load 27 rfl ?_); (with_reducible refine wpList_load_run rfl rfl HLD.out ?_ ?_); (· rfl))
        | ((with_reducible refine is_store 27 rfl ?_); (with_reducible refine wpList_store_run rfl rfl HST.out ?_ ?_ ?_); (· rfl); (· rfl))
        | fail)
      refine bodyPost_ret (results_blk rfl _ rfl (HB2.out.setRow _) Try.underlying27 rfl set_info) rfl ?_
      exact ⟨rfl, below_row HS.out (by have := HSZ.out; omega) _⟩
end Go.Proofs.Ytmihoeholcaokaa
