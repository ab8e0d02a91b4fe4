
/- Package blake: the numbers of a block, and a round. -/
import Derived.Test.YtgcboodlneknpaaDoorBlakeB
namespace Go.Proofs.YtgcboodlneknpaaDoor
open Go.RowKit

theorem arrB128 : Tryd.prog.underlying 32 = some (.array 128 5) := by kernel_rfl
theorem sizeB128 : (Tryd.prog.info? 32).map (·.size) = some 128 := by kernel_rfl
theorem getD_numsL (blk : List Int) (k : Nat) (h : k < 16) : (numsL blk).getD k 0 = word6 blk k := getD_map_range _ _ _ h
set_option maxRecDepth 100000 in
set_option maxHeartbeats 1000000 in
theorem blake_numbers (w : World) (zs : List Int) (hl : zs.length = 128) (hb : ByteL zs) :
    Calls Tryd.prog 22 #[.agg (nums .u8 zs)] w fun e w' => e = .returned (.agg (nums .u64 (numsL zs))) ∧ Below w.heap.size w w' := by
  go_enter Tryd.func22, Tryd.ntmps22
  go_wp2_with fail
  go_loopw [5] (fun i wr => ∃ k : Nat, k ≤ 16 ∧ i = .int .i64 k ∧ Blk wr w.heap.size 32 (nums .u8 zs) ∧ Blk wr (w.heap.size + 1) 49 (nums .u64 (pad [] 16)) ∧ Blk wr (w.heap.size + 1 + 1) 49 (nums .u64 (upto (numsL zs) (pad [] 16) k)) ∧ Below w.heap.size w wr) (fun i _ => 16 - (intOf i).toNat)
  case atStart => exact ⟨0, by decide, rfl, ((Blk.fresh w _ _).alloc _).alloc _, (Blk.freshAt _ _ _ _ (by simp)).alloc _, (by rw [upto_zero]; exact Blk.freshAt _ _ _ _ (by simp)), (((Below.refl _ _).alloc (Nat.le_refl _) _).alloc (by simp) _).alloc (by simp; omega) _⟩
  case round =>
    obtain ⟨k, hk, rfl, b1, b2, b3, hbl⟩ := hrel
    by_cases hlt : k < 16
    · have HS := run_slice_arr (P := Tryd.prog) arrB128 elem_one wr w.heap.size 0 (8 * k) (8 * (k : Int)) (by simp) (by omega)
      have hr : Rd wr wr.heap.size .u8 (some ⟨w.heap.size, 0 + 8 * k, none⟩) (zs.drop (8 * k)) := fun _ => ⟨_, _, rfl, b1.lt, fun i hi => by
        rw [List.length_drop] at hi
        rw [b1.cell, nums_get .u8 zs _ (by omega)]
        simp [List.getD_eq_getElem?_getD, List.getElem?_drop]⟩
      have hz : (zs.drop (8 * k)).length = 128 - 8 * k := by rw [List.length_drop, hl]
      have HB := Little64 wr _ (128 - 8 * k) _ hr (byte_drop hb _)
      rw [hz] at HB
      have hU : (numsL zs).length = (pad [] 16).length := by rw [length_numsL, length_pad]
      have hll : k < (upto (numsL zs) (pad [] 16) k).length := by rw [length_upto _ _ _ hU, length_pad]; omega
      rw [Nat.zero_add] at HB HS
      have E : Hid ((upto (numsL zs) (pad [] 16) k).set k (word6 zs k) = upto (numsL zs) (pad [] 16) (k + 1)) := by
        unfold Hid
        rw [← getD_numsL zs k hlt]
        exact upto_set _ _ _ hU (by rw [length_pad]; exact hlt)
      have HN := fun w1 (h1 : Blk w1 (w.heap.size + 1 + 1) 49 (nums .u64 (upto (numsL zs) (pad [] 16) k))) => (h1.cell k).trans (nums_get .u64 _ k hll)
      have HN' := Lib.hid HN
      have HB' := Lib.hid HB
      clear HB hz hr hll HN
      unfold word6 at E
      have hx := big_range 18446744073709551616 (pad (zs.drop (8 * k)) 8).reverse (by decide)
      generalize big 18446744073709551616 (pad (zs.drop (8 * k)) 8).reverse = x at *
      go_wp2_with fail
      refine HB'.out.mono ?_
      rintro e w1 ⟨rfl, hb1⟩
      replace b1 := b1.on hb1
      replace b2 := b2.on hb1
      replace b3 := b3.on hb1
      have c3 : w1.cell? ⟨w.heap.size + 1 + 1, k, none⟩ = _ := HN'.out w1 b3
      have f3 := b3.free k
      have hbl1 := hbl.trans (hb1.mono hbl.size)
      have hnew := b3.put k (.int .u64 x)
      rw [nums_put, E.out] at hnew
      clear HB' HS HN' E hb1 hbl b3
      go_wp2
      go_roundw
      case rel => exact ⟨k + 1, by omega, by go_num, b1.far (by show _ ≠ w.heap.size + 1 + 1; omega) _, b2.far (by show _ ≠ w.heap.size + 1 + 1; omega) _, hnew, hbl1.setCell (by show _ ≤ w.heap.size + 1 + 1; omega) _⟩
      case measure => simp [intOf]; omega
    · have hk16 : k = 16 := by omega
      have hU : (numsL zs).length = (pad [] 16).length := by rw [length_numsL, length_pad]
      have e16 : upto (numsL zs) (pad [] 16) k = numsL zs := by
        have := upto_all (numsL zs) (pad [] 16) hU
        rw [length_pad] at this
        rw [hk16]; exact this
      rw [e16] at b3
      clear e16 hU
      have hL := length_numsL zs
      obtain ⟨L, eL⟩ : ∃ L, numsL zs = L := ⟨_, rfl⟩
      rw [eL] at b3 hL
      have EL := Lib.hid eL
      clear eL
      have hs : (Tryd.prog.info? 49).map (·.size) = some (nums .u64 L).size := by rw [nums_size, hL]; exact sizeV
      have HL := Lib.hid (run_load_all (P := Tryd.prog) b3 arrV rfl hs)
      have HS := Lib.hid (run_store_all (P := Tryd.prog) (c' := nums .u64 L) b2 hs (by rw [nums_size, nums_size, hL, length_pad]) (nums_one _ _))
      have HR := Lib.hid (b2.setRow (nums .u64 L))
      have Hs := Lib.hid hs
      clear b2 b3 hs b1
      go_wp2_with (first | ((with_reducible refine is_load 49 rfl ?_); (with_reducible refine wpList_load_run rfl rfl HL.out ?_ ?_); (· rfl)) | ((with_reducible refine is_store 49 rfl ?_); (with_reducible refine wpList_store_run rfl rfl HS.out ?_ ?_ ?_); (· rfl); (· rfl)))
      exact bodyPost_ret (results_blk rfl _ rfl HR.out arrV rfl Hs.out) rfl ⟨by rw [EL.out], below_row hbl (by omega) _⟩

set_option maxHeartbeats 800000 in
theorem blake_turn (w : World) (gv gm : Nat) (vs ms : List Int) (r : Nat) (hl : vs.length = 16) (hv : In6 vs) (hm : ms.length = 16) (hr : r < 10) (hne : gm ≠ gv) (hgv : bTop ≤ gv)
    (bv : Blk w gv 49 (nums .u64 vs)) (bm : Blk w gm 49 (nums .u64 ms)) (T : BTabs w) :
    Calls Tryd.prog 23 #[.pointer (some ⟨gv, 0, none⟩), .pointer (some ⟨gm, 0, none⟩), .int .i64 r] w fun e w' => e = .returned (.tuple #[]) ∧ Blk w' gv 49 (nums .u64 (turnK ms r vs 8)) ∧ Only gv w w' := by
  go_enter Tryd.func23, Tryd.ntmps23
  go_wp2_with fail
  go_loopw [9] (fun i wr => ∃ k : Nat, k ≤ 8 ∧ i = .int .i64 k ∧ Blk wr gv 49 (nums .u64 (turnK ms r vs k)) ∧ Only gv w wr) (fun i _ => 8 - (intOf i).toNat)
  case atStart => exact ⟨0, by decide, rfl, by rw [turnK_zero]; exact bv, Only.refl _ _⟩
  case round =>
    obtain ⟨k, hk, rfl, b, ho⟩ := hrel
    by_cases hlt : k < 8
    · have T' := T.only ho hgv
      have bm' := bm.only ho hne
      have h1 := tb_lt r hr (2 * k) (by omega)
      have h2 := tb_lt r hr (2 * k + 1) (by omega)
      have t1 : wr.cell? ⟨1, r * 16 + 2 * k, none⟩ = some (.int .u8 (tb r (2 * k) : Nat)) := T'.table (r * 16 + 2 * k) (by omega)
      have t2 : wr.cell? ⟨1, r * 16 + (2 * k + 1), none⟩ = some (.int .u8 (tb r (2 * k + 1) : Nat)) := T'.table (r * 16 + (2 * k + 1)) (by omega)
      have m1 : wr.cell? ⟨gm, tb r (2 * k), none⟩ = _ := (bm'.cell _).trans (nums_get .u64 ms (tb r (2 * k)) (by omega))
      have m2 : wr.cell? ⟨gm, tb r (2 * k + 1), none⟩ = _ := (bm'.cell _).trans (nums_get .u64 ms (tb r (2 * k + 1)) (by omega))
      have E := Lib.hid (turnK_succ ms r vs k)
      have HST := Lib.hid (fun (w1 : World) (x y : Int) (h1 : Blk w1 gv 49 (nums .u64 (turnK ms r vs k))) (hT : BTabs w1) => blake_step w1 gv (turnK ms r vs k) k x y (by rw [length_turnK]; exact hl) hlt (in6_turnK ms r hv k) h1 hT.places)
      have hr10 : (r : Int) < 10 := by omega
      have hx1 : ((tb r (2 * k) : Nat) : Int) < 16 := by omega
      have hx2 : ((tb r (2 * k + 1) : Nat) : Int) < 16 := by omega
      generalize tb r (2 * k) = c1 at *
      generalize tb r (2 * k + 1) = c2 at *
      generalize ms.getD c1 0 = x at *
      generalize ms.getD c2 0 = y at *
      have j1 : IntKind.i64.wrap (2 * (k : Int)) = ((2 * k : Nat) : Int) := by rw [IntWalk.i64_in _ (by omega)]; omega
      have j2 : IntKind.i64.wrap (((2 * k : Nat) : Int) + 1) = ((2 * k + 1 : Nat) : Int) := by rw [IntWalk.i64_in _ (by omega)]; omega
      have v1 : ((2 * k : Nat) : Int) < 16 := by omega
      have v2 : ((2 * k + 1 : Nat) : Int) < 16 := by omega
      go_wp2_with fail
      go_quiet (fail)
      go_wp2_with fail
      refine (HST.out (wr.drewN nq) x y (b.drewN nq) (T'.drewN nq)).mono ?_
      rintro e w4 ⟨rfl, b4, ho4⟩
      rw [← E.out] at b4
      have ho5 := (ho.drewN nq).trans ho4
      clear HST E b bm' ho ho4
      go_wp2_with fail
      go_roundw
      case rel => exact ⟨k + 1, by omega, by go_num, b4, ho5⟩
      case measure => simp [intOf]; omega
    · have hk8 : k = 8 := by omega
      rw [hk8] at b
      clear hk8
      go_wp2_with fail
      go_end0
      exact ⟨rfl, b, ho⟩
end Go.Proofs.YtgcboodlneknpaaDoor
