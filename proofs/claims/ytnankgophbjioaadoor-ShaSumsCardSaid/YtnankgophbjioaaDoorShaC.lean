
/- Package sha: the numbers of a block. -/
import Derived.Test.YtnankgophbjioaaDoorShaB
import Derived.Test.YtnankgophbjioaaDoorPuts
import Derived.IntWalk
namespace Go.Proofs.YtnankgophbjioaaDoor
open Go.RowKit

theorem arrB64 : Tryd.prog.underlying 32 = some (.array 64 5) := by kernel_rfl
theorem sizeB64 : (Tryd.prog.info? 32).map (·.size) = some 64 := by kernel_rfl
theorem arrW64 : Tryd.prog.underlying 51 = some (.array 64 30) := by kernel_rfl
theorem sizeW64 : (Tryd.prog.info? 51).map (·.size) = some 64 := by kernel_rfl

theorem pad_set (l : List Int) (n : Nat) (x : Int) (_h : l.length < n) : (pad l n).set l.length x = pad (l ++ [x]) n := by
  apply List.ext_getElem
  · simp [length_pad]
  · intro i h1 h2
    simp only [List.length_set, length_pad] at h1
    simp only [List.getElem_set, pad, List.getElem_map, List.getElem_range, List.getD_eq_getElem?_getD]
    by_cases e : l.length = i
    · rw [if_pos e]; subst e; simp
    · rw [if_neg e]
      by_cases e2 : i < l.length
      · rw [List.getElem?_append_left e2]
      · rw [List.getElem?_eq_none (by omega), List.getElem?_eq_none (by simp; omega)]
theorem getD_pad (l : List Int) (n i : Nat) (h : i < n) : (pad l n).getD i 0 = l.getD i 0 := by
  simp [pad, List.getD_eq_getElem?_getD, h]
/-- The t-th number of a block's first 16. -/
def word (blk : List Int) (t : Nat) : Int := big 4294967296 (pad (blk.drop (4 * t)) 4)
def next (l : List Int) (t : Nat) : Int := (sigs (l.getD (t - 2) 0) 17 19 10 + l.getD (t - 7) 0 + sigs (l.getD (t - 15) 0) 7 18 3 + l.getD (t - 16) 0) % 4294967296
/-- The first t numbers of a block. -/
def sched (blk : List Int) : Nat → List Int
  | 0 => []
  | t + 1 => sched blk t ++ [if t < 16 then word blk t else next (sched blk t) t]
theorem length_sched (blk : List Int) : ∀ t, (sched blk t).length = t
  | 0 => rfl
  | t + 1 => by simp [sched, length_sched blk t]
theorem inL_sched (blk : List Int) : ∀ t, InL (sched blk t)
  | 0 => fun c hc => by simp [sched] at hc
  | t + 1 => fun c hc => by
    simp only [sched, List.mem_append, List.mem_singleton] at hc
    rcases hc with hc | rfl
    · exact inL_sched blk t c hc
    · split
      · exact big_range _ _ (by decide)
      · unfold next; omega
theorem sched_low (blk : List Int) (t : Nat) (h : t < 16) : (pad (sched blk t) 64).set t (word blk t) = pad (sched blk (t + 1)) 64 := by
  have := pad_set (sched blk t) 64 (word blk t) (by rw [length_sched]; omega)
  rw [length_sched] at this
  rw [this, sched, if_pos h]
theorem sched_high (blk : List Int) (t : Nat) (h : 16 ≤ t) (h2 : t < 64) : (pad (sched blk t) 64).set t (next (sched blk t) t) = pad (sched blk (t + 1)) 64 := by
  have := pad_set (sched blk t) 64 (next (sched blk t) t) (by rw [length_sched]; omega)
  rw [length_sched] at this
  rw [this, sched, if_neg (by omega)]
theorem pad_sched (blk : List Int) : pad (sched blk 64) 64 = sched blk 64 := by
  have := pad_all (sched blk 64)
  rwa [length_sched] at this
theorem sched_zero (blk : List Int) : sched blk 0 = [] := rfl
attribute [irreducible] sched
theorem byte_drop {l : List Int} (h : ByteL l) (n : Nat) : ByteL (l.drop n) := fun c hc => h c (List.mem_of_mem_drop hc)

set_option maxRecDepth 100000 in
set_option maxHeartbeats 1000000 in
theorem sha_spread (w : World) (zs : List Int) (hl : zs.length = 64) (hb : ByteL zs) :
    Calls Tryd.prog 22 #[.agg (nums .u8 zs)] w fun e w' => e = .returned (.agg (nums .u32 (sched zs 64))) ∧ Below w.heap.size w w' := by
  go_enter Tryd.func22, Tryd.ntmps22
  go_wp2_with fail
  go_loopw [6] (fun i wr => ∃ k : Nat, k ≤ 16 ∧ i = .int .i64 k ∧ Blk wr w.heap.size 32 (nums .u8 zs) ∧ Blk wr (w.heap.size + 1) 51 (nums .u32 (pad [] 64)) ∧ Blk wr (w.heap.size + 1 + 1) 51 (nums .u32 (pad (sched zs k) 64)) ∧ Below w.heap.size w wr) (fun i _ => 16 - (intOf i).toNat)
  case atStart => exact ⟨0, by decide, rfl, ((Blk.fresh w _ _).alloc _).alloc _, (Blk.freshAt _ _ _ _ (by simp)).alloc _, (by rw [sched_zero]; exact Blk.freshAt _ _ _ _ (by simp)), (((Below.refl _ _).alloc (Nat.le_refl _) _).alloc (by simp) _).alloc (by simp; omega) _⟩
  case round =>
    obtain ⟨k, hk, rfl, b1, b2, b3, hbl⟩ := hrel
    by_cases hlt : k < 16
    · have HS := run_slice_arr (P := Tryd.prog) arrB64 elem_one wr w.heap.size 0 (4 * k) (4 * (k : Int)) (by simp) (by omega)
      have hr : Rd wr wr.heap.size .u8 (some ⟨w.heap.size, 0 + 4 * k, none⟩) (zs.drop (4 * k)) := fun _ => ⟨_, _, rfl, b1.lt, fun i hi => by
        rw [List.length_drop] at hi
        rw [b1.cell, nums_get .u8 zs _ (by omega)]
        simp [List.getD_eq_getElem?_getD, List.getElem?_drop]⟩
      have hz : (zs.drop (4 * k)).length = 64 - 4 * k := by rw [List.length_drop, hl]
      have HB := Big32 wr _ (64 - 4 * k) _ hr (byte_drop hb _)
      rw [hz] at HB
      have hll : k < (pad (sched zs k) 64).length := by rw [length_pad]; omega
      rw [Nat.zero_add] at HB HS
      have E := Lib.hid (sched_low zs k hlt)
      have HN := fun w1 (h1 : Blk w1 (w.heap.size + 1 + 1) 51 (nums .u32 (pad (sched zs k) 64))) => (h1.cell k).trans (nums_get .u32 _ k hll)
      have HN' := Lib.hid HN
      have HB' := Lib.hid HB
      clear HB hz hr hll HN
      unfold word at E
      have hx := big_range 4294967296 (pad (zs.drop (4 * k)) 4) (by decide)
      generalize big 4294967296 (pad (zs.drop (4 * k)) 4) = x at *
      go_wp2_with fail
      refine HB'.out.mono ?_
      rintro e w1 ⟨rfl, hb1⟩
      replace b1 := b1.on hb1
      replace b2 := b2.on hb1
      replace b3 := b3.on hb1
      have c3 : w1.cell? ⟨w.heap.size + 1 + 1, k, none⟩ = _ := HN'.out w1 b3
      have f3 := b3.free k
      have hbl1 := hbl.trans (hb1.mono hbl.size)
      have hnew := b3.put k (.int .u32 x)
      rw [nums_put, E.out] at hnew
      clear HB' HS HN' E hb1 hbl b3
      go_wp2
      go_roundw
      case rel => exact ⟨k + 1, by omega, by go_num, b1.far (by show _ ≠ w.heap.size + 1 + 1; omega) _, b2.far (by show _ ≠ w.heap.size + 1 + 1; omega) _, hnew, hbl1.setCell (by show _ ≤ w.heap.size + 1 + 1; omega) _⟩
      case measure => simp [intOf]; omega
    · have hk16 : k = 16 := by omega
      subst hk16
      have B1 := Lib.hid b1
      clear b1 hlt hk
      rw [show ((16 : Nat) : Int) = 16 from rfl]
      go_wp2_with fail
      go_loopw [5] (fun i w2 => ∃ k : Nat, 16 ≤ k ∧ k ≤ 64 ∧ i = .int .i64 k ∧ Blk w2 (w.heap.size + 1) 51 (nums .u32 (pad [] 64)) ∧ Blk w2 (w.heap.size + 1 + 1) 51 (nums .u32 (pad (sched zs k) 64)) ∧ Below w.heap.size w w2) (fun i _ => 64 - (intOf i).toNat)
      case atStart => exact ⟨16, by decide, by decide, rfl, b2, b3, hbl⟩
      case round =>
        obtain ⟨k, hk0, hk, rfl, b2, b3, hbl⟩ := hrel
        by_cases hlt : k < 64
        · have hL := length_sched zs k
          have hP : ∀ i, i < 64 → wr.cell? ⟨w.heap.size + 1 + 1, i, none⟩ = some (.int .u32 ((sched zs k).getD i 0)) := fun i hi => by
            rw [b3.cell, nums_get .u32 _ i (by rw [length_pad]; exact hi), getD_pad _ _ _ hi]
          have c2 := hP (k - 2) (by omega)
          have c7 := hP (k - 7) (by omega)
          have c15 := hP (k - 15) (by omega)
          have c16 := hP (k - 16) (by omega)
          have c0 := hP k hlt
          have r2 := (inL_sched zs k).get (k - 2)
          have r15 := (inL_sched zs k).get (k - 15)
          have f0 := b3.free k
          have E := Lib.hid (sched_high zs k hk0 hlt)
          unfold next at E
          clear hP hL
          generalize (sched zs k).getD (k - 2) 0 = x2 at *
          generalize (sched zs k).getD (k - 7) 0 = x7 at *
          generalize (sched zs k).getD (k - 15) 0 = x15 at *
          generalize (sched zs k).getD (k - 16) 0 = x16 at *
          generalize (sched zs k).getD k 0 = x0 at *
          have t2 : IntKind.i64.wrap ((k : Int) - 2) = ((k - 2 : Nat) : Int) := by rw [IntWalk.i64_in _ (by omega)]; omega
          have v2 : ((k - 2 : Nat) : Int) < 64 := by omega
          have t7 : IntKind.i64.wrap ((k : Int) - 7) = ((k - 7 : Nat) : Int) := by rw [IntWalk.i64_in _ (by omega)]; omega
          have v7 : ((k - 7 : Nat) : Int) < 64 := by omega
          have t15 : IntKind.i64.wrap ((k : Int) - 15) = ((k - 15 : Nat) : Int) := by rw [IntWalk.i64_in _ (by omega)]; omega
          have v15 : ((k - 15 : Nat) : Int) < 64 := by omega
          have t16 : IntKind.i64.wrap ((k : Int) - 16) = ((k - 16 : Nat) : Int) := by rw [IntWalk.i64_in _ (by omega)]; omega
          have v16 : ((k - 16 : Nat) : Int) < 64 := by omega
          go_wp2_with fail
          refine wp_region_still_tail 23 (by kernel_rfl) (by kernel_rfl) ?_
          simp only [List.take_succ_cons, List.take_zero, List.drop_succ_cons, List.drop_zero]
          repeat still_step
          still_call ((s1_call x2 r2.1 r2.2 _).mono (fun _ _ h => ⟨h.1, h.2.symm⟩))
          repeat still_step
          still_call ((s0_call x15 r15.1 r15.2 _).mono (fun _ _ h => ⟨h.1, h.2.symm⟩))
          repeat still_step
          refine wpStill_nil ?_
          go_wp2
          go_roundw
          case rel =>
            have hnew := b3.put k (.int .u32 ((sigs x2 17 19 10 + x7 + sigs x15 7 18 3 + x16) % 4294967296))
            rw [nums_put, E.out] at hnew
            exact ⟨k + 1, by omega, by omega, by go_num, b2.far (by show _ ≠ w.heap.size + 1 + 1; omega) _, hnew, below_drawn (hbl.setCell (by show _ ≤ w.heap.size + 1 + 1; omega) _)⟩
          case measure => simp [intOf]; omega
        · have hk64 : k = 64 := by omega
          rw [hk64, pad_sched] at b3
          clear hk64
          have hL := length_sched zs 64
          obtain ⟨L, eL⟩ : ∃ L, sched zs 64 = L := ⟨_, rfl⟩
          rw [eL] at b3 hL
          have EL := Lib.hid eL
          clear eL
          have hs : (Tryd.prog.info? 51).map (·.size) = some (nums .u32 L).size := by rw [nums_size, hL]; exact sizeW64
          have HL := Lib.hid (run_load_all (P := Tryd.prog) b3 arrW64 rfl hs)
          have HS := Lib.hid (run_store_all (P := Tryd.prog) (c' := nums .u32 L) b2 hs (by rw [nums_size, nums_size, hL, length_pad]) (nums_one _ _))
          have HR := Lib.hid (b2.setRow (nums .u32 L))
          have Hs := Lib.hid hs
          clear b2 b3 hs
          go_wp2_with (first | ((with_reducible refine wpList_load_run rfl rfl HL.out ?_ ?_); (· rfl)) | ((with_reducible refine wpList_store_run rfl rfl HS.out ?_ ?_ ?_); (· rfl); (· rfl)))
          exact bodyPost_ret (results_blk rfl _ rfl HR.out arrW64 rfl Hs.out) rfl ⟨by rw [EL.out], below_row hbl (by omega) _⟩
end Go.Proofs.YtnankgophbjioaaDoor
