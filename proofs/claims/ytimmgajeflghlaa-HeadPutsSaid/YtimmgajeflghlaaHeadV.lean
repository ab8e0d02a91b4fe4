
/- Package head: the document's examples; a nil reader. -/
import Derived.Test.YtimmgajeflghlaaHeadF
import Derived.Test.YtimmgajeflghlaaHeadI
namespace Go.Proofs.Ytimmgajeflghlaa
open Go.RowKit

theorem ex_good : hfirstV (hread [24, 24]) = .tuple #[.agg (h3cells 0 1 24), .int .i64 2, .int .i64 0] := by
  have h := hread_whole (L := [24, 24]) (by decide) (by decide) (by decide) (by decide) (by decide)
  have hs : hshort 0 1 24 = true := by unfold hshort; rw [if_neg (by decide)]; rfl
  have e : hread [24, 24] = hlong 0 1 24 := h
  rw [e]
  unfold hlong hfirstV
  rw [hs]
  rfl
theorem ex_bad : hfirstV (hread [24, 23]) = .tuple #[.agg (h3cells 0 0 0), .int .i64 1, .int .i64 5] := by
  have h := hread_whole (L := [24, 23]) (by decide) (by decide) (by decide) (by decide) (by decide)
  have hs : hshort 0 1 23 = false := by unfold hshort; rw [if_neg (by decide)]; rfl
  have e : hread [24, 23] = hlong 0 1 23 := h
  rw [e]
  unfold hlong hfirstV
  rw [hs]
  rfl
/-- A struct laid into a fresh cell. -/
theorem lay_head {w : World} (m W a : Int) : ∃ w', (Instr.storeAt 26 (.pointer (some ⟨w.heap.size, 0, none⟩)) (.agg (h3cells m W a))).run Try.prog (w.alloc (.cells (h3cells 0 0 0) 26)) = .ok () w' ∧
    Blk w' w.heap.size 26 (h3cells m W a) ∧ Below w.heap.size w w' :=
  ⟨_, run_store_all (Blk.fresh w _ _) (by kernel_rfl) rfl (h3_one _ _ _), (Blk.fresh w _ _).setRow _, below_row (below_alloc w _) (Nat.le_refl _) _⟩
theorem first_two (w : World) (c : Int) (h0 : 0 ≤ c) (h1 : c < 256) :
    Calls Try.prog 7 #[.slice (some ⟨w.heap.size, 0, none⟩) 2 2] (w.alloc (.cells #[.int .u8 24, .int .u8 c] 5)) fun e w' => e = .returned (hfirstV (hread [24, c])) ∧ Below w.heap.size w w' := by
  have hr : Rd (w.alloc (.cells #[.int .u8 24, .int .u8 c] 5)) (w.alloc (.cells #[.int .u8 24, .int .u8 c] 5)).heap.size .u8 (some ⟨w.heap.size, 0, none⟩) [24, c] :=
    (Blk.fresh w 5 (nums .u8 [24, c])).rd
  have hb : ByteL [24, c] := fun x hx => by
    simp at hx
    rcases hx with rfl | rfl <;> omega
  refine (head_First _ _ 2 [24, c] hr hb (by simp)).mono fun e w' h => ⟨h.1, ?_⟩
  have hs : w.heap.size ≤ (w.alloc (.cells #[.int .u8 24, .int .u8 c] 5)).heap.size := by simp
  exact (below_alloc w _).trans (h.2.mono hs)
set_option maxHeartbeats 1000000 in
theorem head_awake (w : World) : Calls Try.prog 6 #[] w fun e w' => e = .returned (.bool true) ∧ Below w.heap.size w w' := by
  have HZ := h3_zero
  have HF1 := Lib.hid (fun w => first_two w 24 (by decide) (by decide))
  have HF2 := Lib.hid (fun w => first_two w 23 (by decide) (by decide))
  rw [ex_good] at HF1
  rw [ex_bad] at HF2
  go_enter Try.func6, Try.ntmps6
  go_wp2_with fail
  refine (HF1.out _).mono ?_
  rintro e w1 ⟨rfl, s1⟩
  obtain ⟨w2, hst, b2, s2⟩ := lay_head (w := w1) 0 1 24
  have HST := Lib.hid hst
  have B2 := Lib.hid b2
  have S2 := Lib.hid (s1.trans (s2.mono s1.size))
  clear hst b2 s1 s2
  go_wp2_with ((with_reducible refine is_store 26 rfl ?_); (with_reducible refine wpList_store_run rfl rfl HST.out ?_ ?_ ?_); (· rfl); (· rfl))
  refine (HF2.out _).mono ?_
  rintro e w3 ⟨rfl, s3⟩
  have b3 := B2.out.on s3
  have s3' := S2.out.trans (s3.mono S2.out.size)
  obtain ⟨w4, hst, b4, s4⟩ := lay_head (w := w3) 0 0 0
  have HST4 := Lib.hid hst
  have b5 := b3.on s4
  have S5 := Lib.hid (s3'.trans (s4.mono s3'.size))
  have HL := Lib.hid (run_load_all (P := Try.prog) (ty := 26) b5 Try.underlying26 rfl hinfo_head)
  clear hst b3 s3 s3' b4 s4 b5 HST B2 S2 HF1 HF2
  simp only [h3cells] at HZ HL HST4 ⊢
  go_wp2_with (first | ((with_reducible refine is_load 26 rfl ?_); (with_reducible refine wpList_load_run rfl rfl HL.out ?_ ?_); (· rfl)) | ((with_reducible refine is_store 26 rfl ?_); (with_reducible refine wpList_store_run rfl rfl HST4.out ?_ ?_ ?_); (· rfl); (· rfl)))
  go_ret
  exact ⟨rfl, S5.out⟩
end Go.Proofs.Ytimmgajeflghlaa
