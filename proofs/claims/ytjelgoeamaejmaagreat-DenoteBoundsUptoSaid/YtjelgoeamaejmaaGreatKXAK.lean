/- Package denote: the rule of a record: its fields laid by their keys. -/
import Derived.Test.YtjelgoeamaejmaaGreatKXAJ
namespace Go.Proofs.YtjelgoeamaejmaaGreat
open Go.RowKit

theorem fl_zero : ∀ w, (zeroValue 53).run Tryz.prog w = .ok (.agg #[.string ⟨#[]⟩, .int .i64 0, .bool false]) w := (zero_of_info (n := 3) (by kernel_rfl)).1
theorem fl_info : (Tryz.prog.info? 53).map (·.size) = some 3 := by kernel_rfl
/-- What a record's rule is made of. -/
def RecPost (cm : Nat) (fs : List Fl) (w : World) (e : Ending) (w' : World) : Prop :=
  ∃ gs gm g6 bm, e = .returned (.func (.func 76) #[] #[.pointer (some ⟨gm, 0, none⟩), .pointer (some ⟨gs, 0, none⟩), .pointer (some ⟨g6, 0, none⟩)]) ∧
      w.heap.size ≤ gs ∧ w.heap.size ≤ gm ∧ w.heap.size ≤ g6 ∧ w.heap.size ≤ bm ∧ Blk w' gs 59 #[standsV cm] ∧ Blk w' gm 104 #[.map (some bm)] ∧ Blk w' g6 3 #[.int .i64 (needF fs : Int)] ∧ MapF w' bm fs.length (fM fs) ∧ Below w.heap.size w w'
set_option maxRecDepth 100000 in
set_option maxHeartbeats 4000000 in
theorem den_recordRule (lo hi : Int) (v : It) (l : List Int) (fs : List Fl) (p : Pl) (cm n : Nat) (w : World) (hn : n ≤ w.heap.size) (hf : RdF w n p.Af fs) (hl : fs.length ≤ 1048576) (hk : ∀ f ∈ fs, f.key.size ≤ 1048576) :
    Calls Tryz.prog 54 #[vN ⟨8, lo, hi, v, l, fs⟩ p, standsV cm] w fun e w' => RecPost cm fs w e w' := by
  obtain ⟨pAv, pcv, pAl, pcl, pAf, pcf⟩ := p
  dsimp only at hf
  obtain ⟨w1, hw1, b1, b2, S⟩ := two_boxes w 47 59 (nc ⟨8, lo, hi, v, l, fs⟩ ⟨pAv, pcv, pAl, pcl, pAf, pcf⟩) #[standsV cm]
  have HS := Lib.hid S
  have HB1 := Lib.hid b1
  have HB2 := Lib.hid b2
  have HF := Lib.hid hf
  have HK := Lib.hid hk
  have HNN := Lib.hid hn
  have HFZ := fl_zero
  unfold nc at b1 hw1
  obtain ⟨p0, p1, p2, p3, p4, p5, p6, p7, p8⟩ := nblk b1
  unfold standsV at hw1
  unfold vN standsV
  dsimp only at *
  have hs1 : w1.heap.size = w.heap.size + 2 := by rw [← hw1]; simp
  have HS1 := Lib.hid hs1
  have hmk : (Instr.makeMap 104 none).run Tryz.prog w1 = .ok (.map (some w1.heap.size)) (w1.alloc (.map #[] 0)) := rfl
  have m2 := MapF.made w1
  have S2 := below_alloc w1 (.map #[] 0)
  have b3 := (Blk.freshAt (w1.alloc (.map #[] 0)) 104 #[.map (some w1.heap.size)] (w1.heap.size + 1) (by simp)).alloc (.cells #[.int .i64 0] 3)
  have b4 := Blk.freshAt ((w1.alloc (.map #[] 0)).alloc (.cells #[.map (some w1.heap.size)] 104)) 3 #[.int .i64 0] (w1.heap.size + 2) (by simp)
  have S4 : Below w1.heap.size w1 (((w1.alloc (.map #[] 0)).alloc (.cells #[.map (some w1.heap.size)] 104)).alloc (.cells #[.int .i64 0] 3)) := (S2.alloc (by simp) _).alloc (by simp; omega) _
  have m4 : MapF (((w1.alloc (.map #[] 0)).alloc (.cells #[.map (some w1.heap.size)] 104)).alloc (.cells #[.int .i64 0] 3)) w1.heap.size 0 (fun _ => none) := (m2.on (below_alloc _ _)).on (below_alloc _ _)
  have HB3 := Lib.hid b3
  have HB4 := Lib.hid b4
  have HS4 := Lib.hid S4
  have HM4 := Lib.hid m4
  have q8 := (HS4.out.cell (p := ⟨w.heap.size, 8, none⟩) (by show w.heap.size < w1.heap.size; omega)).trans p8
  clear b1 b2 S hf hk hn hs1 m2 S2 b3 b4 S4 m4
  have hli : (fs.length : Int) ≤ 1048576 := by omega
  obtain ⟨m, hm⟩ : ∃ m, fs.length = m := ⟨_, rfl⟩
  have HM := Lib.hid hm
  rw [hm] at q8 hli hw1
  go_enter Tryz.func54, Tryz.ntmps54
  go_wp2_with fail
  generalize ((w1.alloc (.map #[] 0)).alloc (.cells #[.map (some w1.heap.size)] 104)).alloc (.cells #[.int .i64 0] 3) = w4 at *
  clear hmk hm p0 p1 p2 p3 p4 p5 p6 p7 p8 q8
  generalize w1.heap.size = g at *
  go_loopw [13] (fun i W => ∃ k : Nat, (k : Int) ≤ (m : Int) ∧ i = .int .i64 (k : Int) ∧ Hid (MapF W g k (fM (fs.take k))) ∧ Hid (Blk W (g + 1) 104 #[.map (some g)]) ∧ Hid (Blk W (g + 1 + 1) 3 #[.int .i64 (needF (fs.take k) : Int)]) ∧ Hid (Below g w1 W)) (fun i _ => m - (intOf i).toNat)
  case atStart => exact ⟨0, by omega, rfl, by have := HM4.out; exact Lib.hid (by rwa [List.take_zero]), HB3, HB4, HS4⟩
  case round =>
    clear HM4 HB3 HB4 HS4
    obtain ⟨k, hk, rfl, HMP, HG1, HG2, HB⟩ := hrel
    by_cases hlt : (k : Int) < (m : Int)
    · have HW := Lib.hid (HS.out.trans (HB.out.mono (by have := HS1.out; omega)))
      obtain ⟨b, o, f, rfl, -, -, hfk, c0, c1, c2⟩ := (HF.out.keep (HW.out.mono HNN.out)).get (i := k) (by have := HM.out; omega)
      have hkl := (List.getElem?_eq_some_iff.1 hfk).1
      have htk : fs.take (k + 1) = fs.take k ++ [f] := by
        rw [List.take_succ_eq_append_getElem hkl]
        rw [List.getElem?_eq_getElem hkl] at hfk
        injection hfk with hfk
        rw [hfk]
      have hks := HK.out f (List.mem_of_getElem? hfk)
      have b0 : Blk (wr.alloc (.cells #[.string ⟨#[]⟩, .int .i64 0, .bool false] 53)) wr.heap.size 53 #[.string ⟨#[]⟩, .int .i64 0, .bool false] := Blk.fresh _ _ _
      have S0 := below_alloc wr (.cells #[.string ⟨#[]⟩, .int .i64 0, .bool false] 53)
      obtain ⟨wZ, hwZ⟩ : ∃ wZ, wr.alloc (.cells #[.string ⟨#[]⟩, .int .i64 0, .bool false] 53) = wZ := ⟨_, rfl⟩
      rw [hwZ] at b0 S0
      have hst0 := run_store_all (P := Tryz.prog) (ty := 53) (c' := #[.string f.key, .int .i64 f.node, .bool f.opt]) b0 fl_info rfl (by simp [Value.oneCell'])
      have b5 := b0.setRow #[.string f.key, .int .i64 f.node, .bool f.opt]
      have S5 := below_row S0 (Nat.le_refl _) #[.string f.key, .int .i64 f.node, .bool f.opt]
      generalize wZ.setRow wr.heap.size #[.string f.key, .int .i64 f.node, .bool f.opt] = w5 at *
      have HST0 := Lib.hid hst0
      have hgl := HMP.out.lt
      obtain ⟨w6, hR6, hM6, hG6⟩ := (HMP.out.on S5).store (s := f.key) (by unfold maxLen; omega) (by unfold maxLen; omega) f
      have HR6 := Lib.hid hR6
      have hne : wr.heap.size ≠ g := by omega
      have b6 := b5.only hG6 hne
      have g1 := (HG1.out.on S5).only hG6 (by omega)
      have g2 := (HG2.out.on S5).only hG6 (by omega)
      have HB6 : Hid (Below g w1 w6) := Lib.hid ((HB.out.trans (S5.mono (by omega))).trans (Only.below (g := g) hG6 (Nat.le_refl _) (Nat.le_trans (Nat.le_of_lt hgl) S5.size)))
      have HM6 : Hid (MapF w6 g (k + 1) (fM (fs.take (k + 1)))) := Lib.hid (by
        have e : fM (fs.take (k + 1)) = fun t => if t = f.key then some f else fM (fs.take k) t := funext fun t => by rw [htk, fM_snoc]
        rw [e]
        exact hM6)
      have HNF := Lib.hid (by rw [htk]; exact needF_snoc (fs.take k) f : needF (fs.take (k + 1)) = needF (fs.take k) + if f.opt = true then 0 else 1)
      have hnl : (needF (fs.take k) : Int) ≤ 1048576 := by have h1 := needF_le (fs.take k); rw [List.length_take] at h1; omega
      unfold fV at HR6
      obtain ⟨x0, x1, x2⟩ : w5.cell? ⟨wr.heap.size, 0, none⟩ = some (.string f.key) ∧ w5.cell? ⟨wr.heap.size, 1, none⟩ = some (.int .i64 f.node) ∧ w5.cell? ⟨wr.heap.size, 2, none⟩ = some (.bool f.opt) := ⟨by rw [b5.cell]; rfl, by rw [b5.cell]; rfl, by rw [b5.cell]; rfl⟩
      have x3 : w5.cell? ⟨g + 1, 0, none⟩ = some (.map (some g)) := by rw [(HG1.out.on S5).cell]; rfl
      have y2 : w6.cell? ⟨wr.heap.size, 2, none⟩ = some (.bool f.opt) := by rw [b6.cell]; rfl
      have y3 : w6.cell? ⟨g + 1 + 1, 0, none⟩ = some (.int .i64 (needF (fs.take k) : Int)) := by rw [g2.cell]; rfl
      have y4 := g2.free 0
      have HG1' := Lib.hid g1
      have HG2' := Lib.hid g2
      obtain ⟨nf, hnf⟩ : ∃ nf, needF (fs.take k) = nf := ⟨_, rfl⟩
      rw [hnf] at HNF hnl y3 HG2'
      clear hR6 hM6 hG6 b0 S0 hst0 S5 b5 b6 g1 g2 hnf HMP HG1 HG2 HB htk hfk hkl
      obtain ⟨op, hop⟩ : ∃ op, f.opt = op := ⟨_, rfl⟩
      rw [hop] at x2 y2 HNF HR6 HST0 c2
      clear hop
      cases op with
      | true =>
        rw [if_pos rfl, Nat.add_zero] at HNF
        go_wp2_with (first
          | (at_mapUpdate; (with_reducible refine wpList_mapF_run rfl rfl HR6.out ?_ ?_ ?_ ?_); (· rfl); (· rfl); (· rfl))
          | ((with_reducible refine is_store 53 rfl ?_); (with_reducible refine wpList_store_run rfl rfl HST0.out ?_ ?_ ?_); (· rfl); (· rfl))
          | fail)
        go_roundw
        case rel => exact ⟨k + 1, by omega, by simp, HM6, HG1', by rw [HNF.out]; exact HG2', HB6⟩
        case measure => simp [intOf]; omega
      | false =>
        rw [if_neg (by decide)] at HNF
        have HB7 : Hid (Below g w1 (w6.setCell ⟨g + 1 + 1, 0, none⟩ (.int .i64 ((nf : Int) + 1)))) := Lib.hid (HB6.out.setCell (p := ⟨g + 1 + 1, 0, none⟩) (by show g ≤ g + 1 + 1; omega) _)
        have HG3 : Hid (Blk (w6.setCell ⟨g + 1 + 1, 0, none⟩ (.int .i64 ((nf : Int) + 1))) (g + 1 + 1) 3 #[.int .i64 ((needF (fs.take (k + 1)) : Nat) : Int)]) := Lib.hid (by
          have := HG2'.out.put 0 (.int .i64 ((nf : Int) + 1))
          rw [HNF.out]
          simpa using this)
        have HG4 : Hid (Blk (w6.setCell ⟨g + 1 + 1, 0, none⟩ (.int .i64 ((nf : Int) + 1))) (g + 1) 104 #[.map (some g)]) := Lib.hid (HG1'.out.far (p := ⟨g + 1 + 1, 0, none⟩) (by show g + 1 ≠ g + 1 + 1; omega) _)
        have HM7 : Hid (MapF (w6.setCell ⟨g + 1 + 1, 0, none⟩ (.int .i64 ((nf : Int) + 1))) g (k + 1) (fM (fs.take (k + 1)))) := Lib.hid (HM6.out.heap (Below.heap_setCell _ _ _ _ (by show g ≠ g + 1 + 1; omega)))
        go_wp2_with (first
          | (at_mapUpdate; (with_reducible refine wpList_mapF_run rfl rfl HR6.out ?_ ?_ ?_ ?_); (· rfl); (· rfl); (· rfl))
          | ((with_reducible refine is_store 53 rfl ?_); (with_reducible refine wpList_store_run rfl rfl HST0.out ?_ ?_ ?_); (· rfl); (· rfl))
          | fail)
        go_roundw
        case rel => exact ⟨k + 1, by omega, by simp, HM7, HG4, HG3, HB7⟩
        case measure => simp [intOf]; omega
    · obtain rfl : k = m := by omega
      have HBW := Lib.hid (HS.out.trans (HB.out.mono (by have := HS1.out; omega)))
      have hgs : Blk wr (w.heap.size + 1) 59 #[standsV cm] := HB2.out.below HB.out (by have := HS1.out; omega)
      have HGS := Lib.hid hgs
      have HG := Lib.hid HS1.out
      have e : fs.take k = fs := List.take_of_length_le (by rw [HM.out]; exact Nat.le_refl _)
      rw [e] at HMP HG2
      clear hgs e
      unfold standsV at HGS
      go_wp2_with fail
      go_ret
      exact ⟨w.heap.size + 1, g + 1, g + 1 + 1, g, rfl, by omega, by have := HG.out; omega, by have := HG.out; omega, by have := HG.out; omega, HGS.out, HG1.out, HG2.out, by rw [HM.out]; exact HMP.out, HBW.out⟩
end Go.Proofs.YtjelgoeamaejmaaGreat
