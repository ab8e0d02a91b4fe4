
/- Package blake: the state, and the numbers in which a block's are mixed. -/
import Derived.Test.YtgcboodlneknpaaDoorBlakeP
namespace Go.Proofs.YtgcboodlneknpaaDoor
open Go.RowKit

/-- The tables lie in their variables. -/
structure BTabs (w : World) : Prop where
  iv : ∀ i, i < 8 → w.cell? ⟨0, i, none⟩ = some (.int .u64 (ivL.getD i 0))
  table : ∀ i, i < 160 → w.cell? ⟨1, i, none⟩ = some (.int .u8 (tableN.getD i 0 : Nat))
  places : ∀ i, i < 32 → w.cell? ⟨2, i, none⟩ = some (.int .u8 (placesN.getD i 0 : Nat))
def bTop : Nat := max 0 (max 1 2) + 1
section
variable {w w' : World} {B g : Nat}
theorem BTabs.top (h : BTabs w) : bTop ≤ w.heap.size := by
  have h1 : 0 < w.heap.size := block_lt_of_cell (h.iv 0 (by decide))
  have h2 : 1 < w.heap.size := block_lt_of_cell (h.table 0 (by decide))
  have h3 : 2 < w.heap.size := block_lt_of_cell (h.places 0 (by decide))
  unfold bTop; omega
theorem BTabs.low (h : BTabs w) (hb : Below B w w') (hB : bTop ≤ B) : BTabs w' := by
  unfold bTop at hB
  exact ⟨fun i hi => (cell_same _ _ (hb.block _ (by omega))).trans (h.iv i hi), fun i hi => (cell_same _ _ (hb.block _ (by omega))).trans (h.table i hi), fun i hi => (cell_same _ _ (hb.block _ (by omega))).trans (h.places i hi)⟩
theorem BTabs.below (h : BTabs w) (hb : Below w.heap.size w w') : BTabs w' := h.low hb h.top
theorem BTabs.only (h : BTabs w) (ho : Only g w w') (hg : bTop ≤ g) : BTabs w' := by
  have ht := h.top
  have h4 := hg
  unfold bTop at ht h4
  exact ⟨fun i hi => (cell_same _ _ (ho.block _ (by omega) (fun e => by injection e with e; omega))).trans (h.iv i hi), fun i hi => (cell_same _ _ (ho.block _ (by omega) (fun e => by injection e with e; omega))).trans (h.table i hi), fun i hi => (cell_same _ _ (ho.block _ (by omega) (fun e => by injection e with e; omega))).trans (h.places i hi)⟩
theorem BTabs.drewN (h : BTabs w) (n : Nat) : BTabs (w.drewN n) := ⟨h.iv, h.table, h.places⟩
theorem BTabs.drew (h : BTabs w) : BTabs w.drew := ⟨h.iv, h.table, h.places⟩
end

theorem arrV : Tryd.prog.underlying 49 = some (.array 16 30) := by kernel_rfl
theorem sizeV : (Tryd.prog.info? 49).map (·.size) = some 16 := by kernel_rfl

set_option maxHeartbeats 800000 in
theorem blake_state (w : World) (g : Nat) (ch : List Int) (i : Nat) (hi : i < 8) (c : w.cell? ⟨g, i, none⟩ = some (.int .u64 (ch.getD i 0))) (T : BTabs w) :
    Calls Tryd.prog 19 #[.pointer (some ⟨g, 0, none⟩), .int .i64 i] w fun e w' => e = .returned (.int .u64 (stN ch i)) ∧ Below w.heap.size w w' := by
  have c0 := T.iv i hi
  have hi8 : (i : Int) < 8 := by omega
  unfold stN
  generalize ch.getD i 0 = x at *
  generalize ivL.getD i 0 = y at *
  by_cases h0 : i = 0
  · subst h0
    go_enter Tryd.func19, Tryd.ntmps19
    go_wp2_with fail
    go_quiet (fail)
    go_wp2_with fail
    go_ret
    exact ⟨rfl, below_drewN (Below.refl _ _) _⟩
  · have hz : ((i : Int) == 0) = false := by rw [beq_eq_false_iff_ne]; omega
    go_enter Tryd.func19, Tryd.ntmps19
    go_wp2_with fail
    go_quiet (fail)
    go_wp2_with fail
    go_ret
    exact ⟨by simp [xor6], below_drewN (Below.refl _ _) _⟩

def zeros8B : List Int := [0, 0, 0, 0, 0, 0, 0, 0]
theorem getD_append_left (a b : List Int) (i : Nat) (h : i < a.length) : (a ++ b).getD i 0 = a.getD i 0 := by
  simp [List.getD_eq_getElem?_getD, List.getElem?_append, h]
theorem getD_append_right (a b : List Int) (i : Nat) (h : a.length ≤ i) : (a ++ b).getD i 0 = b.getD (i - a.length) 0 := by
  simp only [List.getD_eq_getElem?_getD, List.getElem?_append]
  rw [if_neg (by omega)]
set_option maxRecDepth 100000 in
set_option maxHeartbeats 1000000 in
theorem blake_begin (w : World) (g : Nat) (ch : List Int) (len : Int) (last : Bool) (hc : ∀ i, i < 8 → w.cell? ⟨g, i, none⟩ = some (.int .u64 (ch.getD i 0))) (hlen : w.cell? ⟨g, 137, none⟩ = some (.int .u64 len)) (T : BTabs w) :
    Calls Tryd.prog 21 #[.pointer (some ⟨g, 0, none⟩), .bool last] w fun e w' => e = .returned (.agg (nums .u64 (begL ch len last))) ∧ Below w.heap.size w w' := by
  have hg : g < w.heap.size := block_lt_of_cell hlen
  go_enter Tryd.func21, Tryd.ntmps21
  go_wp2_with fail
  go_loopw [7] (fun i wr => ∃ k : Nat, k ≤ 8 ∧ i = .int .i64 k ∧ Blk wr w.heap.size 49 (nums .u64 (zeros8B ++ zeros8B)) ∧ Blk wr (w.heap.size + 1) 49 (nums .u64 (upto (stL ch) zeros8B k ++ upto ivL zeros8B k)) ∧ Below w.heap.size w wr) (fun i _ => 8 - (intOf i).toNat)
  case atStart => exact ⟨0, by decide, rfl, (Blk.fresh w _ _).alloc _, (by rw [upto_zero, upto_zero]; exact Blk.freshAt _ _ _ _ (by simp)), ((Below.refl _ _).alloc (Nat.le_refl _) _).alloc (by simp) _⟩
  case round =>
    obtain ⟨k, hk, rfl, b1, b2, hb⟩ := hrel
    by_cases hlt : k < 8
    · have c0 : wr.cell? ⟨g, k, none⟩ = some (.int .u64 (ch.getD k 0)) := (hb.cell (p := ⟨g, k, none⟩) hg).trans (hc k hlt)
      have HST := Lib.hid (blake_state wr g ch k hlt c0 (T.below hb))
      go_wp2_with fail
      refine HST.out.mono ?_
      rintro e w1 ⟨rfl, hb1⟩
      clear HST c0
      have b1' := b1.on hb1
      have b2' := b2.on hb1
      have hb' := hb.trans (hb1.mono hb.size)
      clear b1 b2 hb hb1
      have hu1 : (upto (stL ch) zeros8B k).length = 8 := by rw [length_upto _ _ _ (length_stL ch)]; rfl
      have hu2 : (upto ivL zeros8B k).length = 8 := by rw [length_upto _ _ _ length_iv]; rfl
      have f1 := b2'.free k
      have c1 : w1.cell? ⟨w.heap.size + 1, k, none⟩ = _ := (b2'.cell k).trans (nums_get .u64 _ k (by rw [List.length_append]; omega))
      have b3 := b2'.put k (.int .u64 (stN ch k))
      have e1 : (upto (stL ch) zeros8B k ++ upto ivL zeros8B k).set k (stN ch k) = upto (stL ch) zeros8B (k + 1) ++ upto ivL zeros8B k := by
        rw [List.set_append_left _ _ (by omega), ← upto_set (stL ch) zeros8B k (length_stL ch) hlt]
        unfold stL
        rw [getD_map_range _ _ _ hlt]
      rw [nums_put, e1] at b3
      have hu3 : (upto (stL ch) zeros8B (k + 1)).length = 8 := by rw [length_upto _ _ _ (length_stL ch)]; rfl
      have f2 := b3.free (k + 8)
      have c2 : (w1.setCell ⟨w.heap.size + 1, k, none⟩ (.int .u64 (stN ch k))).cell? ⟨w.heap.size + 1, k + 8, none⟩ = _ := (b3.cell (k + 8)).trans (nums_get .u64 _ (k + 8) (by rw [List.length_append]; omega))
      have b4 := b3.put (k + 8) (.int .u64 (ivL.getD k 0))
      have e2 : (upto (stL ch) zeros8B (k + 1) ++ upto ivL zeros8B k).set (k + 8) (ivL.getD k 0) = upto (stL ch) zeros8B (k + 1) ++ upto ivL zeros8B (k + 1) := by
        rw [List.set_append_right _ _ (by omega), hu3, show k + 8 - 8 = k by omega, upto_set ivL zeros8B k length_iv hlt]
      rw [nums_put, e2] at b4
      have hbs := (hb'.setCell (p := ⟨w.heap.size + 1, k, none⟩) (by show _ ≤ w.heap.size + 1; omega) (.int .u64 (stN ch k)))
      have cI : (w1.setCell ⟨w.heap.size + 1, k, none⟩ (.int .u64 (stN ch k))).cell? ⟨0, k, none⟩ = some (.int .u64 (ivL.getD k 0)) := (T.below hbs).iv k hlt
      have HX := Lib.hid (And.intro ((b1'.far (p := ⟨w.heap.size + 1, k, none⟩) (by show _ ≠ w.heap.size + 1; omega) (.int .u64 (stN ch k))).far (p := ⟨w.heap.size + 1, k + 8, none⟩) (by show _ ≠ w.heap.size + 1; omega) (.int .u64 (ivL.getD k 0))) (And.intro b4 (hbs.setCell (p := ⟨w.heap.size + 1, k + 8, none⟩) (by show _ ≤ w.heap.size + 1; omega) (.int .u64 (ivL.getD k 0)))))
      clear b1' b2' hb' b3 b4 e1 e2 hu1 hu2 hu3 hbs
      generalize (upto (stL ch) zeros8B k ++ upto ivL zeros8B k).getD k 0 = x0 at *
      generalize (upto (stL ch) zeros8B (k + 1) ++ upto ivL zeros8B k).getD (k + 8) 0 = x1 at *
      generalize ivL.getD k 0 = x2 at *
      generalize stN ch k = x3 at *
      go_wp2_with fail
      go_roundw
      case rel => exact ⟨k + 1, by omega, by go_num, HX.out.1, HX.out.2.1, HX.out.2.2⟩
      case measure => simp [intOf]; omega
    · have hk8 : k = 8 := by omega
      subst hk8
      have e1 : upto (stL ch) zeros8B 8 = stL ch := upto_all (stL ch) zeros8B (length_stL ch)
      have e2 : upto ivL zeros8B 8 = ivL := upto_all ivL zeros8B length_iv
      rw [e1, e2] at b2
      clear e1 e2 hlt hk
      have hll : (stL ch ++ ivL).length = 16 := by rw [List.length_append, length_stL, length_iv]
      have e12 : (stL ch ++ ivL).getD 12 0 = ivL.getD 4 0 := by rw [getD_append_right _ _ _ (by rw [length_stL]; decide), length_stL]
      have e14 : (stL ch ++ ivL).getD 14 0 = ivL.getD 6 0 := by rw [getD_append_right _ _ _ (by rw [length_stL]; decide), length_stL]
      have c12 : wr.cell? ⟨w.heap.size + 1, 12, none⟩ = _ := (b2.cell 12).trans (nums_get .u64 _ 12 (by omega))
      have cl : wr.cell? ⟨g, 137, none⟩ = some (.int .u64 len) := (hb.cell (p := ⟨g, 137, none⟩) hg).trans hlen
      have f12 := b2.free 12
      rw [e12] at c12
      have b3 := b2.put 12 (.int .u64 (xor6 (ivL.getD 4 0) len))
      rw [nums_put] at b3
      have hb3 := hb.setCell (p := ⟨w.heap.size + 1, 12, none⟩) (by show _ ≤ w.heap.size + 1; omega) (.int .u64 (xor6 (ivL.getD 4 0) len))
      have b1' := b1.far (p := ⟨w.heap.size + 1, 12, none⟩) (by show _ ≠ w.heap.size + 1; omega) (.int .u64 (xor6 (ivL.getD 4 0) len))
      have hl3 : ((stL ch ++ ivL).set 12 (xor6 (ivL.getD 4 0) len)).length = 16 := by rw [List.length_set, hll]
      have e14' : ((stL ch ++ ivL).set 12 (xor6 (ivL.getD 4 0) len)).getD 14 0 = ivL.getD 6 0 := by
        rw [List.getD_eq_getElem?_getD, List.getElem?_set_ne (by decide), ← List.getD_eq_getElem?_getD, e14]
      have EB : Hid (begL ch len last = if last then ((stL ch ++ ivL).set 12 (xor6 (ivL.getD 4 0) len)).set 14 (xor6 18446744073709551615 (ivL.getD 6 0)) else (stL ch ++ ivL).set 12 (xor6 (ivL.getD 4 0) len)) := rfl
      generalize (stL ch ++ ivL).set 12 (xor6 (ivL.getD 4 0) len) = V at *
      cases last with
      | false =>
        have hs : (Tryd.prog.info? 49).map (·.size) = some (nums .u64 V).size := by rw [nums_size, hl3]; exact sizeV
        have HL := Lib.hid (run_load_all (P := Tryd.prog) b3.drew arrV rfl hs)
        have HS := Lib.hid (run_store_all (P := Tryd.prog) (c' := nums .u64 V) b1'.drew hs (by rw [nums_size, nums_size, hl3]; rfl) (nums_one _ _))
        have HR := Lib.hid (b1'.drew.setRow (nums .u64 V))
        have Hs := Lib.hid hs
        have HB := Lib.hid (below_row (below_drawn hb3) (Nat.le_refl _) (nums .u64 V))
        clear b3 b1' hs hb3 hb b1 b2 e12 e14 e14' hll
        go_wp2_with fail
        go_still_tail 8, (by kernel_rfl)
        go_wp2_with (first | ((with_reducible refine is_load 49 rfl ?_); (with_reducible refine wpList_load_run rfl rfl HL.out ?_ ?_); (· rfl)) | ((with_reducible refine is_store 49 rfl ?_); (with_reducible refine wpList_store_run rfl rfl HS.out ?_ ?_ ?_); (· rfl); (· rfl)))
        exact bodyPost_ret (results_blk rfl _ rfl HR.out arrV rfl Hs.out) rfl ⟨by rw [EB.out]; rfl, HB.out⟩
      | true =>
        have c14 : wr.cell? ⟨w.heap.size + 1, 14, none⟩ = _ := (b2.cell 14).trans (nums_get .u64 _ 14 (by omega))
        rw [e14] at c14
        have f14 := b2.free 14
        have b4 := b3.put 14 (.int .u64 (xor6 18446744073709551615 (ivL.getD 6 0)))
        rw [nums_put] at b4
        have b5 := b1'.far (p := ⟨w.heap.size + 1, 14, none⟩) (by show _ ≠ w.heap.size + 1; omega) (.int .u64 (xor6 18446744073709551615 (ivL.getD 6 0)))
        have hb4 := hb3.setCell (p := ⟨w.heap.size + 1, 14, none⟩) (by show _ ≤ w.heap.size + 1; omega) (.int .u64 (xor6 18446744073709551615 (ivL.getD 6 0)))
        have hl4 : (V.set 14 (xor6 18446744073709551615 (ivL.getD 6 0))).length = 16 := by rw [List.length_set, hl3]
        have EB' : Hid (begL ch len true = V.set 14 (xor6 18446744073709551615 (ivL.getD 6 0))) := by unfold Hid; rw [EB.out]; rfl
        generalize V.set 14 (xor6 18446744073709551615 (ivL.getD 6 0)) = V' at *
        have hs : (Tryd.prog.info? 49).map (·.size) = some (nums .u64 V').size := by rw [nums_size, hl4]; exact sizeV
        have HL := Lib.hid (run_load_all (P := Tryd.prog) b4.drew arrV rfl hs)
        have HS := Lib.hid (run_store_all (P := Tryd.prog) (c' := nums .u64 V') b5.drew hs (by rw [nums_size, nums_size, hl4]; rfl) (nums_one _ _))
        have HR := Lib.hid (b5.drew.setRow (nums .u64 V'))
        have Hs := Lib.hid hs
        have HB := Lib.hid (below_row (below_drawn hb4) (Nat.le_refl _) (nums .u64 V'))
        clear b3 b4 b5 b1' hs hb3 hb4 hb b1 b2 e12 e14 e14' hll
        generalize ivL.getD 4 0 = y4 at *
        generalize ivL.getD 6 0 = y6 at *
        go_wp2_with fail
        go_still_tail 8, (by kernel_rfl)
        go_wp2_with (first | ((with_reducible refine is_load 49 rfl ?_); (with_reducible refine wpList_load_run rfl rfl HL.out ?_ ?_); (· rfl)) | ((with_reducible refine is_store 49 rfl ?_); (with_reducible refine wpList_store_run rfl rfl HS.out ?_ ?_ ?_); (· rfl); (· rfl)))
        exact bodyPost_ret (results_blk rfl _ rfl HR.out arrV rfl Hs.out) rfl ⟨by rw [EB.out]; rfl, HB.out⟩
end Go.Proofs.YtgcboodlneknpaaDoor
