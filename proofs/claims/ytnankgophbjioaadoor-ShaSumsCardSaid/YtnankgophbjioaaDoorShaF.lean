
/- Package sha: a new digest, a text's end, the sum. -/
import Derived.Test.YtnankgophbjioaaDoorShaE
import Derived.Test.YtnankgophbjioaaDoorApp
namespace Go.Proofs.YtnankgophbjioaaDoor
open Go.RowKit

theorem cells_nil : cellsOf [] = #[.int .u32 0, .int .u32 0, .int .u32 0, .int .u32 0, .int .u32 0, .int .u32 0, .int .u32 0, .int .u32 0, .int .u8 0, .int .u8 0, .int .u8 0, .int .u8 0, .int .u8 0, .int .u8 0, .int .u8 0, .int .u8 0, .int .u8 0, .int .u8 0, .int .u8 0, .int .u8 0, .int .u8 0, .int .u8 0, .int .u8 0, .int .u8 0, .int .u8 0, .int .u8 0, .int .u8 0, .int .u8 0, .int .u8 0, .int .u8 0, .int .u8 0, .int .u8 0, .int .u8 0, .int .u8 0, .int .u8 0, .int .u8 0, .int .u8 0, .int .u8 0, .int .u8 0, .int .u8 0, .int .u8 0, .int .u8 0, .int .u8 0, .int .u8 0, .int .u8 0, .int .u8 0, .int .u8 0, .int .u8 0, .int .u8 0, .int .u8 0, .int .u8 0, .int .u8 0, .int .u8 0, .int .u8 0, .int .u8 0, .int .u8 0, .int .u8 0, .int .u8 0, .int .u8 0, .int .u8 0, .int .u8 0, .int .u8 0, .int .u8 0, .int .u8 0, .int .u8 0, .int .u8 0, .int .u8 0, .int .u8 0, .int .u8 0, .int .u8 0, .int .u8 0, .int .u8 0, .int .u64 0] := by
  unfold cellsOf
  have e : ad [] (([] : List Int).length / 64) = zerosA := ad_zero []
  rw [e]
  rfl
theorem zeroD : (Tryd.prog.info? 35).map (fun i => (i.zero, i.size)) = some (some (.agg #[.int .u32 0, .int .u32 0, .int .u32 0, .int .u32 0, .int .u32 0, .int .u32 0, .int .u32 0, .int .u32 0, .int .u8 0, .int .u8 0, .int .u8 0, .int .u8 0, .int .u8 0, .int .u8 0, .int .u8 0, .int .u8 0, .int .u8 0, .int .u8 0, .int .u8 0, .int .u8 0, .int .u8 0, .int .u8 0, .int .u8 0, .int .u8 0, .int .u8 0, .int .u8 0, .int .u8 0, .int .u8 0, .int .u8 0, .int .u8 0, .int .u8 0, .int .u8 0, .int .u8 0, .int .u8 0, .int .u8 0, .int .u8 0, .int .u8 0, .int .u8 0, .int .u8 0, .int .u8 0, .int .u8 0, .int .u8 0, .int .u8 0, .int .u8 0, .int .u8 0, .int .u8 0, .int .u8 0, .int .u8 0, .int .u8 0, .int .u8 0, .int .u8 0, .int .u8 0, .int .u8 0, .int .u8 0, .int .u8 0, .int .u8 0, .int .u8 0, .int .u8 0, .int .u8 0, .int .u8 0, .int .u8 0, .int .u8 0, .int .u8 0, .int .u8 0, .int .u8 0, .int .u8 0, .int .u8 0, .int .u8 0, .int .u8 0, .int .u8 0, .int .u8 0, .int .u8 0, .int .u64 0]), 73) := by kernel_rfl
theorem zero_dig : ∀ w, (zeroValue 35).run Tryd.prog w = .ok (.agg (cellsOf [])) w := by
  rw [cells_nil]
  exact (zero_of_info zeroD).1
set_option maxRecDepth 100000 in
theorem sha_new (w : World) : Calls Tryd.prog 9 #[] w fun e w' => e = .returned (.pointer (some ⟨w.heap.size, 0, none⟩)) ∧ Blk w' w.heap.size 35 (cellsOf []) ∧ Below w.heap.size w w' := by
  have HZ := zero_dig
  have HC := Lib.hid (Blk.fresh w 35 (cellsOf []))
  generalize cellsOf [] = C at *
  go_enter Tryd.func9, Tryd.ntmps9
  go_wp2
  go_ret
  exact ⟨rfl, HC.out, below_alloc w _⟩

/-- What stands behind a text of n bytes. -/
def endL (n : Nat) : List Int := 128 :: List.replicate (((55 - (n : Int)) % 64).toNat) 0 ++ (le 8 (8 * n)).reverse
theorem info5 : (Tryd.prog.info? 5).map (fun i => (i.zero, i.size, i.bytes)) = some (some (.int .u8 0), 1, 1) := by kernel_rfl
theorem made_zeros (n : Nat) : madeCells #[Value.int .u8 0] n = nums .u8 (List.replicate n 0) := by
  apply Array.ext
  · simp [size_madeCells, nums]
  · intro i h1 h2
    simp [madeCells, nums, Nat.mod_one]
set_option maxHeartbeats 800000 in
theorem sha_end (w : World) (n : Nat) (hn : n ≤ 1000000000) :
    Calls Tryd.prog 18 #[.int .u64 n] w fun e w' => ∃ A cap, e = .returned (.slice A (endL n).length cap) ∧ (endL n).length ≤ cap ∧ (A = none → cap = 0) ∧ Rd w' w'.heap.size .u8 A (endL n) ∧ (∀ p, A = some p → ∃ b, p = ⟨b, 0, none⟩ ∧ w.heap.size ≤ b) ∧ Below w.heap.size w w' := by
  have hz := wrap_rem64 (55 - n)
  have hz64 : ((55 - (n : Int)) % 64).toNat < 64 := by omega
  obtain ⟨z, ez⟩ : ∃ z, ((55 - (n : Int)) % 64).toNat = z := ⟨_, rfl⟩
  have EL : Hid (endL n = (List.replicate (z + 1) 0).set 0 128 ++ (le 8 (8 * n)).reverse) := by unfold Hid endL; rw [ez]; rfl
  rw [ez] at hz hz64
  clear ez
  obtain ⟨i0, hi, hz0, hz1, hz2⟩ := info_parts info5
  have HM := run_make (P := Tryd.prog) w 22 5 i0 (.int .u8 0) Tryd.underlying22 hi hz0 .i64 .i64 (1 + (z : Int)) (1 + (z : Int)) (by omega) (by omega) (by rw [hz2]; omega) (by omega)
  have e1 : (1 + (z : Int)).toNat = z + 1 := by omega
  rw [hz1, e1, Nat.mul_one, show (Value.int IntKind.u8 0).cells = #[.int .u8 0] from rfl, made_zeros] at HM
  clear e1 hi hz0 hz1 hz2
  have hc0 : (nums .u8 (List.replicate (z + 1) 0))[0]? = some (.int .u8 0) := rfl
  have hset : (nums .u8 (List.replicate (z + 1) 0)).setIfInBounds 0 (.int .u8 128) = nums .u8 ((List.replicate (z + 1) 0).set 0 128) := nums_put _ _ _ _
  have hl1 : ((List.replicate (z + 1) (0 : Int)).set 0 128).length = z + 1 := by simp
  have hl2 : (le 8 (8 * (n : Int))).reverse.length = 8 := by rw [List.length_reverse, length_le]
  obtain ⟨X, eX⟩ : ∃ X, (List.replicate (z + 1) (0 : Int)).set 0 128 = X := ⟨_, rfl⟩
  rw [eX] at hset hl1 EL
  have HSET := Lib.hid hset
  have HL1 := Lib.hid hl1
  have HL2 := Lib.hid hl2
  clear eX hl1 hl2 hset
  have HC0 := hc0
  clear hc0
  obtain ⟨C0, eC0⟩ : ∃ C0, nums .u8 (List.replicate (z + 1) 0) = C0 := ⟨_, rfl⟩
  rw [eC0] at HC0 HM HSET
  clear eC0
  go_enter Tryd.func18, Tryd.ntmps18
  go_wp2_with fail
  rw [HSET.out]
  refine (PutBig64 _ (8 * n) (by omega)).mono ?_
  rintro e w2 ⟨g, rfl, hg, hb⟩
  have o1 := Own.ofBlk (B := w.heap.size) (k := .u8) (Blk.fresh w 5 (nums .u8 X)) (Nat.le_refl _) (by rw [HL1.out]; unfold maxLen; omega)
  rw [HL1.out] at o1
  have o2 := o1.below hb
  have hsz : w.heap.size ≤ w2.heap.size := by have := hb.size; simp at this; omega
  obtain ⟨v', w3, hr, o3, hb3, _⟩ := run_append_nums (P := Tryd.prog) (ty := 22) Tryd.underlying22 info5 (by decide) o2 (cap := 8) hg.rd (fun h => by cases h) (by rw [HL1.out, HL2.out]; omega) hsz
  rw [HL2.out] at hr
  have HR := Lib.hid hr
  clear hr
  go_wp2_with ((with_reducible refine wpList_append_run rfl rfl HR.out ?_ ?_ ?_); (· rfl); (· rfl))
  go_ret
  rw [← EL.out] at o3
  obtain ⟨A, cap, rfl, h1, h2, h3, h4, h5⟩ := o3.form
  exact ⟨A, cap, rfl, h1, h3, h5, h4, ((below_alloc w _).trans (hb.mono (by simp))).trans hb3⟩
end Go.Proofs.YtnankgophbjioaaDoor
