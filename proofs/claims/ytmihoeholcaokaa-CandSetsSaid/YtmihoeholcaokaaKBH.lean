/- Package cand: the document's example, up to Open. -/
import Derived.Test.YtmihoeholcaokaaKAO
import Derived.Test.YtmihoeholcaokaaKBG
namespace Go.Proofs.Ytmihoeholcaokaa
open Go.RowKit

def ch19 : Nd := ⟨10, 0, 0, zIt, [1, 2], []⟩
def in19 : Nd := ⟨1, 0, 5, zIt, [], []⟩
def st19 : Nd := ⟨3, 1, 2, zIt, [], []⟩
def aw19 : List Nd := [ch19, in19, st19]
theorem aw19_ok : ∀ x ∈ aw19, okN x := by
  intro x hx
  simp only [aw19, List.mem_cons, List.not_mem_nil, or_false] at hx
  rcases hx with rfl | rfl | rfl <;> exact ⟨okI_z, (fun y hy => by cases hy), by simp [ch19, in19, st19]⟩
theorem wrong_none {ch : It → Int} {x : Nd} {i m : Int} (h1 : ¬ (x.k < 0 ∨ 10 < x.k)) (h2 : formN ch x = true) (h3 : rangedN x = true) (h4 : keysN x.f = 0) (h5 : nameE x i m = 0) : wrongN ch x i m = 0 := by
  unfold wrongN
  rw [if_neg h1, if_neg (by rw [h2]; decide), if_neg (by rw [h3]; decide), if_neg (fun e => e h4), h5]
theorem aw19_check : checkE chI aw19 = 0 := by
  refine (checkE_all (by decide) fun j hj => ?_).1
  have hj2 : j < 3 := hj
  match j, hj2 with
  | 0, _ =>
    rw [errN_some (x := ch19) rfl]
    exact wrong_none (by decide) (by simp [formN, Nd.of, sameN, ch19]) (by simp [rangedN, ch19]) rfl (by simp [nameE, namedN, ch19, nameB, aw19])
  | 1, _ =>
    rw [errN_some (x := in19) rfl]
    exact wrong_none (by decide) (by simp [formN, Nd.of, sameN, in19]) (by simp [rangedN, in19]) rfl (by simp [nameE, namedN, in19])
  | 2, _ =>
    rw [errN_some (x := st19) rfl]
    exact wrong_none (by decide) (by simp [formN, Nd.of, sameN, st19]) (by simp [rangedN, st19]) rfl (by simp [nameE, namedN, st19])
def aw19n (g : Nat) : Array Value := #[.int .i64 10, .int .i64 0, .int .i64 0, .int .i64 0, .int .u64 0, .string ⟨#[]⟩, .slice none 0 0, .slice (some ⟨g, 0, none⟩) 2 2, .slice none 0 0,
  .int .i64 1, .int .i64 0, .int .i64 5, .int .i64 0, .int .u64 0, .string ⟨#[]⟩, .slice none 0 0, .slice none 0 0, .slice none 0 0,
  .int .i64 3, .int .i64 1, .int .i64 2, .int .i64 0, .int .u64 0, .string ⟨#[]⟩, .slice none 0 0, .slice none 0 0, .slice none 0 0]
/-- The example's schema in memory. -/
structure Aw (w : World) (g gN : Nat) : Prop where
  l : Blk w g 3 #[.int .i64 1, .int .i64 2]
  n : Blk w gN 42 (aw19n g)
theorem Aw.on {w w' : World} {g gN : Nat} (h : Aw w g gN) (hb : Below w.heap.size w w') : Aw w' g gN := ⟨h.l.on hb, h.n.on hb⟩
theorem Aw.rd {w : World} {g gN : Nat} (h : Aw w g gN) : Rd w w.heap.size .i64 (some ⟨g, 0, none⟩) [1, 2] := fun _ => ⟨g, 0, rfl, h.l.lt, fun i hi => by
  rw [h.l.cell]
  match i, hi with
  | 0, _ => rfl
  | 1, _ => rfl⟩
theorem Aw.rdN {w : World} {g gN : Nat} (h : Aw w g gN) : RdN w w.heap.size (some ⟨gN, 0, none⟩) aw19 := by
  intro _
  refine ⟨gN, 0, rfl, h.n.lt, h.n.lt, fun i x hx => ?_⟩
  have hi := (List.getElem?_eq_some_iff.1 hx).1
  rcases (by simp [aw19] at hi; omega : i = 0 ∨ i = 1 ∨ i = 2) with rfl | rfl | rfl
  · obtain rfl : ch19 = x := by injection hx
    refine ⟨⟨none, 0, some ⟨g, 0, none⟩, 2, none, 0⟩, ⟨zIt_at _ _, h.rd, Nat.le_refl _, (fun h => by cases h), RdF.nil, Nat.le_refl _, fun _ => rfl⟩, fun j u hu => ?_⟩
    rw [h.n.cell]
    have hj := (Array.getElem?_eq_some_iff.1 hu).1
    simp [nc] at hj
    rcases (by omega : j = 0 ∨ j = 1 ∨ j = 2 ∨ j = 3 ∨ j = 4 ∨ j = 5 ∨ j = 6 ∨ j = 7 ∨ j = 8) with rfl | rfl | rfl | rfl | rfl | rfl | rfl | rfl | rfl <;> exact hu
  · obtain rfl : in19 = x := by injection hx
    refine ⟨⟨none, 0, none, 0, none, 0⟩, ⟨zIt_at _ _, (fun h => absurd h (by simp [in19])), Nat.le_refl _, (fun _ => rfl), RdF.nil, Nat.le_refl _, fun _ => rfl⟩, fun j u hu => ?_⟩
    rw [h.n.cell]
    have hj := (Array.getElem?_eq_some_iff.1 hu).1
    simp [nc] at hj
    rcases (by omega : j = 0 ∨ j = 1 ∨ j = 2 ∨ j = 3 ∨ j = 4 ∨ j = 5 ∨ j = 6 ∨ j = 7 ∨ j = 8) with rfl | rfl | rfl | rfl | rfl | rfl | rfl | rfl | rfl <;> exact hu
  · obtain rfl : st19 = x := by injection hx
    refine ⟨⟨none, 0, none, 0, none, 0⟩, ⟨zIt_at _ _, (fun h => absurd h (by simp [st19])), Nat.le_refl _, (fun _ => rfl), RdF.nil, Nat.le_refl _, fun _ => rfl⟩, fun j u hu => ?_⟩
    rw [h.n.cell]
    have hj := (Array.getElem?_eq_some_iff.1 hu).1
    simp [nc] at hj
    rcases (by omega : j = 0 ∨ j = 1 ∨ j = 2 ∨ j = 3 ∨ j = 4 ∨ j = 5 ∨ j = 6 ∨ j = 7 ∨ j = 8) with rfl | rfl | rfl | rfl | rfl | rfl | rfl | rfl | rfl <;> exact hu

set_option maxRecDepth 100000 in
set_option maxHeartbeats 4000000 in
theorem cand_well (g gN : Nat) (w : World) (h : Aw w g gN) : Calls Try.prog 22 #[.agg #[.slice (some ⟨gN, 0, none⟩) 3 3]] w fun e w' => e = .returned (.bool true) ∧ Below w.heap.size w w' := by
  obtain ⟨w1, hw1, b1, S⟩ := iblk1 w 45 #[.slice (some ⟨gN, 0, none⟩) 3 3]
  have HC := Lib.hid (sch_Check aw19 (some ⟨gN, 0, none⟩) 3 w1.heap.size w1 (Nat.le_refl _) (h.on S).rdN aw19_ok (by decide))
  rw [aw19_check] at HC
  have HS := Lib.hid S
  have p0 := sblk b1
  unfold vS at HC
  clear b1 S h
  go_enter Try.func22, Try.ntmps22
  go_wp2_with (first
    | (go_at_call 23; refine HC.out.mono ?_; rintro e w2 ⟨rfl, hb2⟩; have HB2 := Lib.hid (HS.out.trans (hb2.mono HS.out.size)); clear hb2)
    | fail)
  go_ret
  exact ⟨rfl, HB2.out⟩
set_option maxRecDepth 100000 in
set_option maxHeartbeats 4000000 in
theorem cand_nodes (g gN : Nat) (w : World) (h : Aw w g gN) : Calls Try.prog 17 #[.agg #[.slice (some ⟨gN, 0, none⟩) 3 3]] w fun e w' => e = .returned (.agg (setC 7)) ∧ Below w.heap.size w w' := by
  obtain ⟨w1, hw1, b1, S1⟩ := iblk1 w 45 #[.slice (some ⟨gN, 0, none⟩) 3 3]
  obtain ⟨w3, hw3, b2, b3, S3⟩ := sblock2 w1
  have e1 : w1.heap.size = w.heap.size + 1 := by rw [← hw1]; simp
  have S := S1.trans (S3.mono S1.size)
  have HW := Lib.hid (cand_well g gN w3 (h.on S))
  have HS := Lib.hid S
  have HB1 := Lib.hid (b1.on S3)
  have HB2 := Lib.hid b2
  have HB3 := Lib.hid b3
  rw [e1] at HB2 HB3
  have p0 := sblk HB1.out
  have HWI := Lib.hid (fun B n W => cand_With B n W)
  clear b1 b2 b3 S1 S3 S h
  go_enter Try.func17, Try.ntmps17
  go_wp2_with (first
    | (go_at_call 22; refine HW.out.mono ?_; rintro e w4 ⟨rfl, hb⟩; have HS4 := Lib.hid (HS.out.trans (hb.mono HS.out.size)); have HB1' := Lib.hid (HB1.out.on hb); have HB2' := Lib.hid (HB2.out.on hb); have HB3' := Lib.hid (HB3.out.on hb); have p0' := sblk HB1'.out; clear hb)
    | fail)
  clear hw1 hw3 p0 HW HS HB1 HB2 HB3
  refine wp_loop_rounds 4 ?_
  rw [rounds_succ]
  have HLD := Lib.hid (run_load_all (P := Try.prog) (ty := 27) HB3'.out Try.underlying27 rfl set_info)
  go_wp2_with (first
    | ((with_reducible refine is_load 27 rfl ?_); (with_reducible refine wpList_load_run rfl rfl HLD.out ?_ ?_); (· rfl))
    | (go_at_call 9; refine (HWI.out _ _ _).mono ?_; rw [show withB 0 0 = 1 by decide]; rintro e w5 ⟨rfl, hb⟩; have HB3 := Lib.hid (HB3'.out.on hb); have HST := Lib.hid (run_store_all (P := Try.prog) (ty := 27) (c' := setC 1) HB3.out set_info rfl (setC_one _)))
    | ((with_reducible refine is_store 27 rfl ?_); (with_reducible refine wpList_store_run rfl rfl HST.out ?_ ?_ ?_); (· rfl); (· rfl))
    | fail)
  have k1 := (HB1'.out.on hb).farRow (i := w.heap.size + 1 + 1) (by omega) (setC 1)
  have k2 := (HB2'.out.on hb).farRow (i := w.heap.size + 1 + 1) (by omega) (setC 1)
  have k3 := HB3.out.setRow (setC 1)
  have kS := below_row (HS4.out.trans (hb.mono HS4.out.size)) (g := w.heap.size + 1 + 1) (by omega) (setC 1)
  clear HB1' HB2' HB3' HS4 hb HB3 HST HLD p0'
  generalize w5.setRow (w.heap.size + 1 + 1) (setC 1) = w6 at *
  have HB1' := Lib.hid k1
  have HB2' := Lib.hid k2
  have HB3' := Lib.hid k3
  have HS4 := Lib.hid kS
  have p0' := sblk k1
  clear k1 k2 k3 kS
  rw [rounds_succ]
  have HLD := Lib.hid (run_load_all (P := Try.prog) (ty := 27) HB3'.out Try.underlying27 rfl set_info)
  go_wp2_with (first
    | ((with_reducible refine is_load 27 rfl ?_); (with_reducible refine wpList_load_run rfl rfl HLD.out ?_ ?_); (· rfl))
    | (go_at_call 9; refine (HWI.out _ _ _).mono ?_; rw [show withB 1 1 = 3 by decide]; rintro e w7 ⟨rfl, hb⟩; have HB3 := Lib.hid (HB3'.out.on hb); have HST := Lib.hid (run_store_all (P := Try.prog) (ty := 27) (c' := setC 3) HB3.out set_info rfl (setC_one _)))
    | ((with_reducible refine is_store 27 rfl ?_); (with_reducible refine wpList_store_run rfl rfl HST.out ?_ ?_ ?_); (· rfl); (· rfl))
    | fail)
  have k1 := (HB1'.out.on hb).farRow (i := w.heap.size + 1 + 1) (by omega) (setC 3)
  have k2 := (HB2'.out.on hb).farRow (i := w.heap.size + 1 + 1) (by omega) (setC 3)
  have k3 := HB3.out.setRow (setC 3)
  have kS := below_row (HS4.out.trans (hb.mono HS4.out.size)) (g := w.heap.size + 1 + 1) (by omega) (setC 3)
  clear HB1' HB2' HB3' HS4 hb HB3 HST HLD p0'
  generalize w7.setRow (w.heap.size + 1 + 1) (setC 3) = w8 at *
  have HB1' := Lib.hid k1
  have HB2' := Lib.hid k2
  have HB3' := Lib.hid k3
  have HS4 := Lib.hid kS
  have p0' := sblk k1
  clear k1 k2 k3 kS
  rw [rounds_succ]
  have HLD := Lib.hid (run_load_all (P := Try.prog) (ty := 27) HB3'.out Try.underlying27 rfl set_info)
  go_wp2_with (first
    | ((with_reducible refine is_load 27 rfl ?_); (with_reducible refine wpList_load_run rfl rfl HLD.out ?_ ?_); (· rfl))
    | (go_at_call 9; refine (HWI.out _ _ _).mono ?_; rw [show withB 3 2 = 7 by decide]; rintro e w9 ⟨rfl, hb⟩; have HB3 := Lib.hid (HB3'.out.on hb); have HST := Lib.hid (run_store_all (P := Try.prog) (ty := 27) (c' := setC 7) HB3.out set_info rfl (setC_one _)))
    | ((with_reducible refine is_store 27 rfl ?_); (with_reducible refine wpList_store_run rfl rfl HST.out ?_ ?_ ?_); (· rfl); (· rfl))
    | fail)
  have k1 := (HB1'.out.on hb).farRow (i := w.heap.size + 1 + 1) (by omega) (setC 7)
  have k2 := (HB2'.out.on hb).farRow (i := w.heap.size + 1 + 1) (by omega) (setC 7)
  have k3 := HB3.out.setRow (setC 7)
  have kS := below_row (HS4.out.trans (hb.mono HS4.out.size)) (g := w.heap.size + 1 + 1) (by omega) (setC 7)
  clear HB1' HB2' HB3' HS4 hb HB3 HST HLD p0'
  generalize w9.setRow (w.heap.size + 1 + 1) (setC 7) = w10 at *
  have HB1' := Lib.hid k1
  have HB2' := Lib.hid k2
  have HB3' := Lib.hid k3
  have HS4 := Lib.hid kS
  have p0' := sblk k1
  clear k1 k2 k3 kS
  rw [rounds_succ]
  have HLD := Lib.hid (run_load_all (P := Try.prog) (ty := 27) HB3'.out Try.underlying27 rfl set_info)
  have HST := Lib.hid (run_store_all (P := Try.prog) (ty := 27) (c' := setC 7) HB2'.out set_info rfl (setC_one _))
  go_wp2_with (first
    | ((with_reducible refine is_load 27 rfl ?_); (with_reducible refine wpList_load_run rfl rfl HLD.out ?_ ?_); (· rfl))
    | ((with_reducible refine is_store 27 rfl ?_); (with_reducible refine wpList_store_run rfl rfl HST.out ?_ ?_ ?_); (· rfl); (· rfl))
    | fail)
  refine bodyPost_ret (results_blk rfl _ rfl (HB2'.out.setRow _) Try.underlying27 rfl set_info) rfl ?_
  exact ⟨rfl, below_row HS4.out (by omega) _⟩
end Go.Proofs.Ytmihoeholcaokaa
