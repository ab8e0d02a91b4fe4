
/- Package head: Head, Open, Reset, First. -/
import Derived.Test.YtimmgajeflghlaaHeadB
import Derived.Deep.WholeRow
namespace Go.Proofs.Ytimmgajeflghlaa
open Go.RowKit

theorem h3_zero : ∀ w, (zeroValue 26).run Try.prog w = .ok (.agg (h3cells 0 0 0)) w := (zero_of_info (n := 3) (by kernel_rfl)).1
theorem hq_zero : ∀ w, (zeroValue 43).run Try.prog w = .ok (.agg (hcells hq0)) w := (zero_of_info (n := 6) (by kernel_rfl)).1
theorem h3_one (m W a : Int) : (h3cells m W a).all (·.oneCell') = true := by
  rw [Array.all_eq_true_iff_forall_mem]
  intro x hx
  simp [h3cells] at hx
  rcases hx with rfl | rfl | rfl <;> rfl
theorem head_Head_nil (w : World) :
    Calls Try.prog 16 #[.pointer none] w fun e w' => e = .returned (.agg (h3cells 0 0 0)) ∧ Below w.heap.size w w' := by
  have HZ := h3_zero
  have b1 : Blk (w.alloc (.cells (h3cells 0 0 0) 26)) w.heap.size 26 (h3cells 0 0 0) := Blk.fresh _ _ _
  have s1 : Below w.heap.size w (w.alloc (.cells (h3cells 0 0 0) 26)) := below_alloc _ _
  have HS := Lib.hid (run_store_all (P := Try.prog) (ty := 26) (c' := h3cells 0 0 0) b1 (by kernel_rfl) rfl (h3_one _ _ _))
  have b2 := Lib.hid (b1.setRow (h3cells 0 0 0))
  have s2 := Lib.hid (below_row s1 (Nat.le_refl _) (h3cells 0 0 0))
  clear b1 s1
  go_enter Try.func16, Try.ntmps16
  go_wp2_with ((with_reducible refine is_store 26 rfl ?_); (with_reducible refine wpList_store_run rfl rfl HS.out ?_ ?_ ?_); (· rfl); (· rfl))
  exact bodyPost_ret (results_blk rfl _ rfl b2.out Try.underlying26 rfl hinfo_head) rfl ⟨rfl, s2.out⟩
theorem head_Reset_nil (w : World) :
    Calls Try.prog 14 #[.pointer none] w fun e w' => e = .returned (.tuple #[]) ∧ w = w' := by
  go_enter Try.func14, Try.ntmps14
  go_wp2
  go_end0
  exact ⟨rfl, rfl⟩
theorem head_Open_nil (w : World) :
    Calls Try.prog 17 #[.pointer none] w fun e w' => e = .returned (.bool false) ∧ w = w' := by
  go_enter Try.func17, Try.ntmps17
  go_wp2
  go_ret
  exact ⟨rfl, rfl⟩
theorem head_Step_nil (c : Int) (w : World) :
    Calls Try.prog 15 #[.pointer none, .int .u8 c] w fun e w' => e = .returned (.tuple #[.bool false, .int .i64 10]) ∧ w = w' := by
  go_enter Try.func15, Try.ntmps15
  go_wp2
  go_ret2
  exact ⟨rfl, rfl⟩
/-- A whole head that ended. -/
theorem head_Head_done (q : HQ) (ho : q.opn = false) (w : World) (g : Nat) (hg : Blk w g 43 (hcells q)) :
    Calls Try.prog 16 #[.pointer (some ⟨g, 0, none⟩)] w fun e w' => e = .returned (.agg (h3cells q.major q.width q.arg)) ∧ Below w.heap.size w w' := by
  have HZ := h3_zero
  have b1 : Blk (w.alloc (.cells (h3cells 0 0 0) 26)) w.heap.size 26 (h3cells 0 0 0) := Blk.fresh _ _ _
  have s1 : Below w.heap.size w (w.alloc (.cells (h3cells 0 0 0) 26)) := below_alloc _ _
  have hg1 := hg.on s1
  obtain ⟨w1, hw1⟩ : ∃ w1, w.alloc (.cells (h3cells 0 0 0) 26) = w1 := ⟨_, rfl⟩
  rw [hw1] at b1 s1 hg1
  have HL := Lib.hid (h3_load hg1)
  have HS := Lib.hid (run_store_all (P := Try.prog) (ty := 26) (c' := h3cells q.major q.width q.arg) b1 (by kernel_rfl) rfl (h3_one _ _ _))
  have b2 := Lib.hid (b1.setRow (h3cells q.major q.width q.arg))
  have s2 := Lib.hid (below_row s1 (Nat.le_refl _) (h3cells q.major q.width q.arg))
  obtain ⟨m, W, a, l, o, e⟩ := q
  obtain ⟨c0, c1, c2, c3, c4, c5, _⟩ := hblk hg1
  dsimp only at ho HL HS b2 s2 ⊢
  subst ho
  clear b1 s1 hg hg1
  go_enter Try.func16, Try.ntmps16
  go_wp2_with (first | ((with_reducible refine is_load 26 rfl ?_); (with_reducible refine wpList_load_run rfl rfl HL.out ?_ ?_); (· rfl)) | ((with_reducible refine is_store 26 rfl ?_); (with_reducible refine wpList_store_run rfl rfl HS.out ?_ ?_ ?_); (· rfl); (· rfl)))
  exact bodyPost_ret (results_blk rfl _ rfl b2.out Try.underlying26 rfl hinfo_head) rfl ⟨rfl, s2.out⟩
end Go.Proofs.Ytimmgajeflghlaa
