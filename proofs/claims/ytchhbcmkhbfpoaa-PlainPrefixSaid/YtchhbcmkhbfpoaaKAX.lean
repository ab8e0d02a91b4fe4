/- Package plain: read. -/
import Derived.Test.YtchhbcmkhbfpoaaKAV
namespace Go.Proofs.Ytchhbcmkhbfpoaa
open Go.RowKit

set_option maxRecDepth 4000 in
set_option maxHeartbeats 4000000 in
theorem plain_read (L : List Int) (hb : ByteL L) (hl : L.length ≤ 300) (f : Nat) : ReadC L (prs L f) := by
  induction f with
  | zero => intro a x e w A cap B0 _ h; cases h
  | succ f ih =>
    intro a x e w A cap B0 hB0 h hr hc
    have hMany := plain_readMany L (prs L f) ih (prs_bd hb f) hl
    have hpb := prs_bd hb (f + 1) a x e h
    unfold prs at h
    split at h
    case isFalse => cases h
    case isTrue hcond =>
    obtain ⟨hal, he⟩ := hcond
    have hby : ByteL (L.drop a) := fun c hc => hb c (List.mem_of_mem_drop hc)
    have hfine := hread_fine (L := L.drop a) hby he
    have hmn := hread_many (L.drop a)
    have hg0 := hread_arg (L.drop a)
    have hg1 := hread_arg_lt (L.drop a)
    have hmj := hread_major (L.drop a) hby
    obtain ⟨w1, hw1, b1, S1⟩ := iblk1 w 56 #[.int .i64 0, .int .u64 0, .string ⟨#[]⟩, .slice none 0 0]
    have hz1 : w1.heap.size = w.heap.size + 1 := by rw [← hw1]; simp
    have HF := head_First w1 A cap (L.drop a) ((hr.below (S1.mono hB0)).more (Nat.le_trans hB0 S1.size)) hby (by rw [List.length_drop]; omega)
    unfold hfirstV at HF
    rw [if_pos he, List.length_drop] at HF
    rw [List.length_drop] at hmn hfine
    generalize hread (L.drop a) = r at *
    obtain ⟨m, W, g, z, p, er⟩ := r
    dsimp only at HF h he hfine hmn hg0 hg1 hmj
    obtain ⟨_, hz0, hW, _⟩ := hfine
    obtain ⟨zn, rfl⟩ : ∃ zn : Nat, z = zn := ⟨z.toNat, by omega⟩
    rw [Int.toNat_natCast] at h
    have hcut : ∀ v : World, (Instr.sliceAt 22 (.slice A (L.length - a) cap) (some (.int .i64 (zn : Int))) none none).run Try.prog v = .ok (.slice (cutA A zn cap) (L.length - (a + zn)) (cap - zn)) v := fun v => by
      have := run_cut (P := Try.prog) (t := 22) (elem := 5) (by kernel_rfl) (by kernel_rfl) v A (L.length - a) cap zn zn rfl (by omega)
      rw [Nat.sub_sub] at this
      exact this
    have hr1 : Rd w B0 .u8 (cutA A zn cap) (L.drop (a + zn)) := by
      have := hr.cut zn cap (by rw [List.length_drop]; exact hc)
      rw [List.drop_drop] at this
      exact this
    have hc1 : L.length - (a + zn) ≤ cap - zn := by omega
    have hbL : a + zn ≤ L.length := by omega
    generalize cutA A zn cap = A1 at *
    generalize cap - zn = c1 at *
    obtain ⟨b, hbe⟩ : ∃ b, a + zn = b := ⟨_, rfl⟩
    rw [hbe] at h hr1 hc1 hbL
    rw [hbe] at hcut
    have hW' : W = 0 ∨ W = 1 ∨ FW W g := by
      rcases hW with h | h | h | h | h
      · exact .inl h
      · exact .inr (.inl h)
      · exact .inr (.inr (.inl h))
      · exact .inr (.inr (.inr (.inl h)))
      · exact .inr (.inr (.inr (.inr h)))
    have HFI := Lib.hid HF
    unfold h3cells at HFI
    have HB1 := Lib.hid b1
    have HS1 := Lib.hid S1
    have HRd := Lib.hid hr1
    have HC1 := Lib.hid hc1
    have HB0 := Lib.hid hB0
    have HZ := item_zero
    have HZ1 := Lib.hid hz1
    have HMN := Lib.hid hMany
    have HBL := Lib.hid hb
    have HX : Hid (∀ w2, Below w1.heap.size w1 w2 → Blk (w2.alloc (.cells #[.int .i64 m, .int .i64 W, .int .u64 g] 40)) w.heap.size 56 #[.int .i64 0, .int .u64 0, .string ⟨#[]⟩, .slice none 0 0] ∧ Below w.heap.size w (w2.alloc (.cells #[.int .i64 m, .int .i64 W, .int .u64 g] 40)) ∧ w.heap.size < (w2.alloc (.cells #[.int .i64 m, .int .i64 W, .int .u64 g] 40)).heap.size ∧ ((w2.alloc (.cells #[.int .i64 m, .int .i64 W, .int .u64 g] 40)).cell? ⟨w2.heap.size, 0, none⟩ = some (.int .i64 m) ∧ (w2.alloc (.cells #[.int .i64 m, .int .i64 W, .int .u64 g] 40)).cell? ⟨w2.heap.size, 1, none⟩ = some (.int .i64 W) ∧ (w2.alloc (.cells #[.int .i64 m, .int .i64 W, .int .u64 g] 40)).cell? ⟨w2.heap.size, 2, none⟩ = some (.int .u64 g))) := fun w2 hb2 => by
      have hbw := S1.trans (hb2.mono S1.size)
      refine ⟨(b1.on hb2).alloc _, hbw.alloc hbw.size _, ?_, (Blk.fresh w2 40 #[.int .i64 m, .int .i64 W, .int .u64 g]).cell 0, (Blk.fresh w2 40 #[.int .i64 m, .int .i64 W, .int .u64 g]).cell 1, (Blk.fresh w2 40 #[.int .i64 m, .int .i64 W, .int .u64 g]).cell 2⟩
      have := hb2.size
      simp
      omega
    have HNE : Hid (∀ w2, Below w1.heap.size w1 w2 → w2.heap.size ≠ w.heap.size) := fun w2 hb2 => by have := hb2.size; omega
    have hm8 : m = 0 ∨ m = 1 ∨ m = 2 ∨ m = 3 ∨ m = 4 ∨ m = 5 ∨ m = 6 ∨ m = 7 := by omega
    unfold prsBody at h
    clear hb ih hMany hal he hby hmn hmj HF b1 S1 hr hc hz0 hW hr1 hc1 hB0
    rcases hm8 with rfl | rfl | rfl | rfl | rfl | rfl | rfl | rfl
    · rw [if_neg (by omega), if_neg (by omega), if_neg (by omega)] at h
      injection h with h
      injection h with h1 h2
      subst h1 h2
      go_enter Try.func30, Try.ntmps30
      go_wp2_with fail
      refine HFI.out.mono ?_
      rintro r w2 ⟨rfl, hb2⟩
      obtain ⟨hx1, hx2, hx3, hx4, hx5, hx6⟩ := HX.out w2 hb2
      have HX1 := Lib.hid hx1
      have HX2 := Lib.hid hx2
      have HX3 := Lib.hid hx3
      have HB2' := Lib.hid hb2
      clear hx1 hx2 hx3 hb2 HX HFI
      obtain ⟨w3, hw3⟩ : ∃ w3, w2.alloc (.cells #[.int .i64 0, .int .i64 W, .int .u64 g] 40) = w3 := ⟨_, rfl⟩
      rw [hw3] at HX1 HX2 HX3 hx4 hx5 hx6
      obtain ⟨r1, r2, r3, r4⟩ := it_fill HX1.out HX2.out (Nat.le_refl _) 0 g ⟨#[]⟩ none 0 0
      have H1 := Lib.hid r1
      have H2 := Lib.hid r2
      have H3 := Lib.hid r3
      clear r1 r2 r3 r4
      go_wp2_with ((with_reducible refine is_store 56 rfl ?_); (with_reducible refine wpList_store_run rfl rfl H1.out ?_ ?_ ?_); (· rfl); (· rfl))
      refine bodyPost_ret (results_blk2 rfl _ rfl H2.out Try.underlying56 rfl it_info) rfl ?_
      exact ⟨none, 0, A1, c1, rfl, ⟨Nat.le_refl _, fun _ => rfl, AtL.nil _⟩, HRd.out.below (H3.out.mono HB0.out), HC1.out, H3.out⟩
    · rw [if_neg (by omega), if_neg (by omega), if_neg (by omega)] at h
      injection h with h
      injection h with h1 h2
      subst h1 h2
      go_enter Try.func30, Try.ntmps30
      go_wp2_with fail
      refine HFI.out.mono ?_
      rintro r w2 ⟨rfl, hb2⟩
      obtain ⟨hx1, hx2, hx3, hx4, hx5, hx6⟩ := HX.out w2 hb2
      have HX1 := Lib.hid hx1
      have HX2 := Lib.hid hx2
      have HX3 := Lib.hid hx3
      have HB2' := Lib.hid hb2
      clear hx1 hx2 hx3 hb2 HX HFI
      obtain ⟨w3, hw3⟩ : ∃ w3, w2.alloc (.cells #[.int .i64 1, .int .i64 W, .int .u64 g] 40) = w3 := ⟨_, rfl⟩
      rw [hw3] at HX1 HX2 HX3 hx4 hx5 hx6
      obtain ⟨r1, r2, r3, r4⟩ := it_fill HX1.out HX2.out (Nat.le_refl _) 1 g ⟨#[]⟩ none 0 0
      have H1 := Lib.hid r1
      have H2 := Lib.hid r2
      have H3 := Lib.hid r3
      clear r1 r2 r3 r4
      go_wp2_with ((with_reducible refine is_store 56 rfl ?_); (with_reducible refine wpList_store_run rfl rfl H1.out ?_ ?_ ?_); (· rfl); (· rfl))
      refine bodyPost_ret (results_blk2 rfl _ rfl H2.out Try.underlying56 rfl it_info) rfl ?_
      exact ⟨none, 0, A1, c1, rfl, ⟨Nat.le_refl _, fun _ => rfl, AtL.nil _⟩, HRd.out.below (H3.out.mono HB0.out), HC1.out, H3.out⟩
    · rw [if_pos (by omega)] at h
      split at h
      case isFalse => cases h
      case isTrue hbe2 =>
      injection h with h
      injection h with h1 h2
      subst h1 h2
      obtain ⟨gn, rfl⟩ : ∃ gn : Nat, g = gn := ⟨g.toNat, by omega⟩
      rw [Int.toNat_natCast] at hbe2 ⊢
      have hsl : (slice L b (b + gn)).length = gn := by rw [length_slice hbe2]; omega
      have hh : ∀ v : World, (Instr.sliceAt 22 (.slice A1 (L.length - b) c1) none (some (.int .u64 (gn : Int))) none).run Try.prog v = .ok (.slice (cutA A1 0 c1) gn c1) v := fun v => run_headU (by kernel_rfl) (elem := 5) (by kernel_rfl) v A1 (L.length - b) c1 gn gn rfl (by have := HC1.out; omega)
      have ht : ∀ v : World, (Instr.sliceAt 22 (.slice A1 (L.length - b) c1) (some (.int .u64 (gn : Int))) none none).run Try.prog v = .ok (.slice (cutA A1 gn c1) (L.length - (b + gn)) (c1 - gn)) v := fun v => by
        have := run_cutU (P := Try.prog) (t := 22) (elem := 5) (by kernel_rfl) (by kernel_rfl) v A1 (L.length - b) c1 gn gn rfl (by omega)
        rw [Nat.sub_sub] at this
        exact this
      have hcv : ∀ v : World, Rd v B0 .u8 A1 (L.drop b) → (convert 22 9 (.slice (cutA A1 0 c1) gn c1)).run Try.prog v = .ok (.string (strOfNums (slice L b (b + gn)))) v := fun v hv => by
        have := run_str (P := Try.prog) (e := 5) (src := 22) (dst := 9) (by kernel_rfl) (by kernel_rfl) (by kernel_rfl) c1 (rd_slice hv 0 gn c1 (by rw [List.length_drop]; exact HC1.out))
        have e1 : slice (L.drop b) 0 gn = slice L b (b + gn) := by unfold slice; simp
        rw [e1, hsl] at this
        exact this
      have hrr : Rd w B0 .u8 (cutA A1 gn c1) (L.drop (b + gn)) := by
        have := HRd.out.cut gn c1 (by rw [List.length_drop]; exact HC1.out)
        rw [List.drop_drop] at this
        exact this
      have HCV := Lib.hid hcv
      have HRR := Lib.hid hrr
      have HC2 : Hid (L.length - (b + gn) ≤ c1 - gn) := by have := HC1.out; show _ ≤ _; omega
      generalize strOfNums (slice L b (b + gn)) = tx at *
      generalize cutA A1 gn c1 = A2 at *
      generalize cutA A1 0 c1 = A3 at *
      clear hcv hrr hsl hbe2 hpb
      go_enter Try.func30, Try.ntmps30
      go_wp2_with fail
      refine HFI.out.mono ?_
      rintro r w2 ⟨rfl, hb2⟩
      obtain ⟨hx1, hx2, hx3, hx4, hx5, hx6⟩ := HX.out w2 hb2
      have HX1 := Lib.hid hx1
      have HX2 := Lib.hid hx2
      have HX3 := Lib.hid hx3
      have HB2' := Lib.hid hb2
      clear hx1 hx2 hx3 hb2 HX HFI
      obtain ⟨w3, hw3⟩ : ∃ w3, w2.alloc (.cells #[.int .i64 2, .int .i64 W, .int .u64 (gn : Int)] 40) = w3 := ⟨_, rfl⟩
      rw [hw3] at HX1 HX2 HX3 hx4 hx5 hx6
      have hcv := HCV.out w3 (HRd.out.below (HX2.out.mono HB0.out))
      have hcv2 : (convert 22 9 (.slice A3 gn c1)).run Try.prog w3.drew = .ok (.string tx) w3.drew := HCV.out w3.drew ((HRd.out.below (HX2.out.mono HB0.out)).drew)
      have k0 := HX1.out.cell 0
      have k1 := HX1.out.cell 1
      have k2 := HX1.out.cell 2
      have k3 := HX1.out.cell 3
      have f0 := HX1.out.free 0
      have f1 := HX1.out.free 1
      have f2 := HX1.out.free 2
      have f3 := HX1.out.free 3
      simp only [List.getElem?_toArray, List.getElem?_cons_zero, List.getElem?_cons_succ] at k0 k1 k2 k3
      have hne1 : w2.heap.size ≠ w.heap.size := HNE.out w2 HB2'.out
      have hne2 : w.heap.size ≠ w2.heap.size := Ne.symm hne1
      have H2 : Hid (Blk (((((w3.setCell ⟨w.heap.size, 0, none⟩ (.int .i64 2)).setCell ⟨w.heap.size, 1, none⟩ (.int .u64 0)).setCell ⟨w.heap.size, 2, none⟩ (.string tx)).setCell ⟨w.heap.size, 3, none⟩ (.slice none 0 0)).drew) w.heap.size 56 #[.int .i64 2, .int .u64 0, .string tx, .slice none 0 0]) := ((((HX1.out.put 0 _).put 1 _).put 2 _).put 3 _).drew
      have H3 : Hid (Below w.heap.size w (((((w3.setCell ⟨w.heap.size, 0, none⟩ (.int .i64 2)).setCell ⟨w.heap.size, 1, none⟩ (.int .u64 0)).setCell ⟨w.heap.size, 2, none⟩ (.string tx)).setCell ⟨w.heap.size, 3, none⟩ (.slice none 0 0)).drew)) := below_drawn ((((HX2.out.setCell (Nat.le_refl _) _).setCell (Nat.le_refl _) _).setCell (Nat.le_refl _) _).setCell (Nat.le_refl _) _)
      go_wp2_with fail
      go_region
      clear hcv hcv2 k0 k1 k2 k3 f0 f1 f2 f3 hx4 hx5 hx6 hne1 hne2
      go_wp2_with fail
      refine bodyPost_ret (results_blk2 rfl _ rfl H2.out Try.underlying56 rfl it_info) rfl ?_
      exact ⟨none, 0, A2, c1 - gn, rfl, ⟨Nat.le_refl _, fun _ => rfl, AtL.nil _⟩, HRR.out.below (H3.out.mono HB0.out), HC2.out, H3.out⟩
    · rw [if_pos (by omega)] at h
      split at h
      case isFalse => cases h
      case isTrue hbe2 =>
      injection h with h
      injection h with h1 h2
      subst h1 h2
      obtain ⟨gn, rfl⟩ : ∃ gn : Nat, g = gn := ⟨g.toNat, by omega⟩
      rw [Int.toNat_natCast] at hbe2 ⊢
      have hsl : (slice L b (b + gn)).length = gn := by rw [length_slice hbe2]; omega
      have hh : ∀ v : World, (Instr.sliceAt 22 (.slice A1 (L.length - b) c1) none (some (.int .u64 (gn : Int))) none).run Try.prog v = .ok (.slice (cutA A1 0 c1) gn c1) v := fun v => run_headU (by kernel_rfl) (elem := 5) (by kernel_rfl) v A1 (L.length - b) c1 gn gn rfl (by have := HC1.out; omega)
      have ht : ∀ v : World, (Instr.sliceAt 22 (.slice A1 (L.length - b) c1) (some (.int .u64 (gn : Int))) none none).run Try.prog v = .ok (.slice (cutA A1 gn c1) (L.length - (b + gn)) (c1 - gn)) v := fun v => by
        have := run_cutU (P := Try.prog) (t := 22) (elem := 5) (by kernel_rfl) (by kernel_rfl) v A1 (L.length - b) c1 gn gn rfl (by omega)
        rw [Nat.sub_sub] at this
        exact this
      have hcv : ∀ v : World, Rd v B0 .u8 A1 (L.drop b) → (convert 22 9 (.slice (cutA A1 0 c1) gn c1)).run Try.prog v = .ok (.string (strOfNums (slice L b (b + gn)))) v := fun v hv => by
        have := run_str (P := Try.prog) (e := 5) (src := 22) (dst := 9) (by kernel_rfl) (by kernel_rfl) (by kernel_rfl) c1 (rd_slice hv 0 gn c1 (by rw [List.length_drop]; exact HC1.out))
        have e1 : slice (L.drop b) 0 gn = slice L b (b + gn) := by unfold slice; simp
        rw [e1, hsl] at this
        exact this
      have hrr : Rd w B0 .u8 (cutA A1 gn c1) (L.drop (b + gn)) := by
        have := HRd.out.cut gn c1 (by rw [List.length_drop]; exact HC1.out)
        rw [List.drop_drop] at this
        exact this
      have HCV := Lib.hid hcv
      have HRR := Lib.hid hrr
      have HC2 : Hid (L.length - (b + gn) ≤ c1 - gn) := by have := HC1.out; show _ ≤ _; omega
      generalize strOfNums (slice L b (b + gn)) = tx at *
      generalize cutA A1 gn c1 = A2 at *
      generalize cutA A1 0 c1 = A3 at *
      clear hcv hrr hsl hbe2 hpb
      go_enter Try.func30, Try.ntmps30
      go_wp2_with fail
      refine HFI.out.mono ?_
      rintro r w2 ⟨rfl, hb2⟩
      obtain ⟨hx1, hx2, hx3, hx4, hx5, hx6⟩ := HX.out w2 hb2
      have HX1 := Lib.hid hx1
      have HX2 := Lib.hid hx2
      have HX3 := Lib.hid hx3
      have HB2' := Lib.hid hb2
      clear hx1 hx2 hx3 hb2 HX HFI
      obtain ⟨w3, hw3⟩ : ∃ w3, w2.alloc (.cells #[.int .i64 3, .int .i64 W, .int .u64 (gn : Int)] 40) = w3 := ⟨_, rfl⟩
      rw [hw3] at HX1 HX2 HX3 hx4 hx5 hx6
      have hcv := HCV.out w3 (HRd.out.below (HX2.out.mono HB0.out))
      have hcv2 : (convert 22 9 (.slice A3 gn c1)).run Try.prog w3.drew = .ok (.string tx) w3.drew := HCV.out w3.drew ((HRd.out.below (HX2.out.mono HB0.out)).drew)
      have k0 := HX1.out.cell 0
      have k1 := HX1.out.cell 1
      have k2 := HX1.out.cell 2
      have k3 := HX1.out.cell 3
      have f0 := HX1.out.free 0
      have f1 := HX1.out.free 1
      have f2 := HX1.out.free 2
      have f3 := HX1.out.free 3
      simp only [List.getElem?_toArray, List.getElem?_cons_zero, List.getElem?_cons_succ] at k0 k1 k2 k3
      have hne1 : w2.heap.size ≠ w.heap.size := HNE.out w2 HB2'.out
      have hne2 : w.heap.size ≠ w2.heap.size := Ne.symm hne1
      have H2 : Hid (Blk (((((w3.setCell ⟨w.heap.size, 0, none⟩ (.int .i64 3)).setCell ⟨w.heap.size, 1, none⟩ (.int .u64 0)).setCell ⟨w.heap.size, 2, none⟩ (.string tx)).setCell ⟨w.heap.size, 3, none⟩ (.slice none 0 0)).drew) w.heap.size 56 #[.int .i64 3, .int .u64 0, .string tx, .slice none 0 0]) := ((((HX1.out.put 0 _).put 1 _).put 2 _).put 3 _).drew
      have H3 : Hid (Below w.heap.size w (((((w3.setCell ⟨w.heap.size, 0, none⟩ (.int .i64 3)).setCell ⟨w.heap.size, 1, none⟩ (.int .u64 0)).setCell ⟨w.heap.size, 2, none⟩ (.string tx)).setCell ⟨w.heap.size, 3, none⟩ (.slice none 0 0)).drew)) := below_drawn ((((HX2.out.setCell (Nat.le_refl _) _).setCell (Nat.le_refl _) _).setCell (Nat.le_refl _) _).setCell (Nat.le_refl _) _)
      go_wp2_with fail
      go_region
      clear hcv hcv2 k0 k1 k2 k3 f0 f1 f2 f3 hx4 hx5 hx6 hne1 hne2
      go_wp2_with fail
      refine bodyPost_ret (results_blk2 rfl _ rfl H2.out Try.underlying56 rfl it_info) rfl ?_
      exact ⟨none, 0, A2, c1 - gn, rfl, ⟨Nat.le_refl _, fun _ => rfl, AtL.nil _⟩, HRR.out.below (H3.out.mono HB0.out), HC2.out, H3.out⟩
    · rw [if_neg (by omega), if_pos (by omega)] at h
      have hmo : manyOf 4 g = g.toNat := by unfold manyOf; simp
      rw [hmo] at h
      split at h
      · cases h
      next l e' hl' =>
      injection h with h
      injection h with h1 h2
      rw [if_neg (by omega)] at h1
      subst h1 h2
      have hbd := prsMany_bd (B := L) (prs_bd HBL.out f) g.toNat b l e' hbL hl'
      clear hpb hmo
      have HLM : Hid (∀ v, w.heap.size ≤ v.heap.size → Rd v B0 .u8 A1 (L.drop b) → Calls Try.prog 40 #[.slice A1 (L.length - b) c1, .int .u64 g] v fun r w' => ∃ vv A' c', r = .returned (.tuple #[vv, .slice A' (L.length - e') c']) ∧ OwnT w' v.heap.size vv l ∧ Rd w' B0 .u8 A' (L.drop e') ∧ L.length - e' ≤ c' ∧ Below v.heap.size v w') := fun v hv hrd => by
        have := HMN.out g.toNat b l e' hl' hbL v A1 c1 B0 (Nat.le_trans HB0.out hv) hrd HC1.out
        rw [show ((g.toNat : Nat) : Int) = g by omega] at this
        exact this
      clear HMN hl' hbd
      go_enter Try.func30, Try.ntmps30
      go_wp2_with fail
      refine HFI.out.mono ?_
      rintro r w2 ⟨rfl, hb2⟩
      obtain ⟨hx1, hx2, hx3, hx4, hx5, hx6⟩ := HX.out w2 hb2
      have HX1 := Lib.hid hx1
      have HX2 := Lib.hid hx2
      have HX3 := Lib.hid hx3
      have HB2' := Lib.hid hb2
      clear hx1 hx2 hx3 hb2 HX HFI
      obtain ⟨w3, hw3⟩ : ∃ w3, w2.alloc (.cells #[.int .i64 4, .int .i64 W, .int .u64 g] 40) = w3 := ⟨_, rfl⟩
      rw [hw3] at HX1 HX2 HX3 hx4 hx5 hx6
      go_wp2_with fail
      refine (HLM.out w3 (Nat.le_of_lt HX3.out) (HRd.out.below (HX2.out.mono HB0.out))).mono ?_
      rintro r w4 ⟨vv, A', c', rfl, ho, hrd, hc', hb4⟩
      obtain ⟨Al, cl, rfl, hle, hnil, hat⟩ := ho.form
      obtain ⟨r1, r2, r3, r4⟩ := it_fill (HX1.out.on hb4) (HX2.out.trans (hb4.mono HX2.out.size)) (Nat.le_refl _) 4 0 ⟨#[]⟩ Al l.length cl
      have HXF := HX1.out.on hb4
      have u0 := HXF.cell 0
      have H1 := Lib.hid r1
      have H2 := Lib.hid r2
      have H3 := Lib.hid r3
      have HEND : Hid (AtS (w4.setRow w.heap.size #[.int .i64 4, .int .u64 0, .string ⟨#[]⟩, .slice Al l.length cl]) (fun b => w.heap.size ≤ b) (.mk 4 0 ⟨#[]⟩ l) Al cl ∧ Rd (w4.setRow w.heap.size #[.int .i64 4, .int .u64 0, .string ⟨#[]⟩, .slice Al l.length cl]) B0 .u8 A' (L.drop e')) := by
        refine ⟨⟨hle, hnil, AtL.keep (fun q hq hlt => r4.block q hlt (fun e => ?_)) (fun q hq => Nat.le_trans (Nat.le_of_lt HX3.out) hq) _ _ hat⟩, hrd.below (r4.below HB0.out (Nat.le_trans HB0.out (Nat.le_trans HX2.out.size hb4.size)))⟩
        injection e with e
        have := HX3.out
        omega
      have y6 := hb4.cell (p := ⟨w2.heap.size, 2, none⟩) (by have := block_lt_of_cell hx6; exact this) |>.trans hx6
      clear r1 r2 r3 r4 hb4 ho hat hrd HXF u0 hx4 hx5
      go_wp2_with ((with_reducible refine is_store 56 rfl ?_); (with_reducible refine wpList_store_run rfl rfl H1.out ?_ ?_ ?_); (· rfl); (· rfl))
      refine bodyPost_ret (results_blk2 rfl _ rfl H2.out Try.underlying56 rfl it_info) rfl ?_
      exact ⟨Al, cl, A', c', rfl, HEND.out.1, HEND.out.2, hc', H3.out⟩
    · rw [if_neg (by omega), if_pos (by omega)] at h
      have hmo : manyOf 5 g = (2 * g.toNat) := by unfold manyOf; simp
      rw [hmo] at h
      split at h
      · cases h
      next l e' hl' =>
      injection h with h
      injection h with h1 h2
      rw [if_neg (by omega)] at h1
      subst h1 h2
      have hbd := prsMany_bd (B := L) (prs_bd HBL.out f) (2 * g.toNat) b l e' hbL hl'
      have ew : IntKind.u64.wrap (2 * g) = 2 * g := IntWalk.u64_in _ (by have h1 := length_le_countL l; have := hbd.2.2.1; have := hbd.2.2.2; omega)
      clear hpb hmo
      have HLM : Hid (∀ v, w.heap.size ≤ v.heap.size → Rd v B0 .u8 A1 (L.drop b) → Calls Try.prog 40 #[.slice A1 (L.length - b) c1, .int .u64 (2 * g)] v fun r w' => ∃ vv A' c', r = .returned (.tuple #[vv, .slice A' (L.length - e') c']) ∧ OwnT w' v.heap.size vv l ∧ Rd w' B0 .u8 A' (L.drop e') ∧ L.length - e' ≤ c' ∧ Below v.heap.size v w') := fun v hv hrd => by
        have := HMN.out (2 * g.toNat) b l e' hl' hbL v A1 c1 B0 (Nat.le_trans HB0.out hv) hrd HC1.out
        rw [show (((2 * g.toNat) : Nat) : Int) = (2 * g) by omega] at this
        exact this
      clear HMN hl' hbd
      go_enter Try.func30, Try.ntmps30
      go_wp2_with fail
      refine HFI.out.mono ?_
      rintro r w2 ⟨rfl, hb2⟩
      obtain ⟨hx1, hx2, hx3, hx4, hx5, hx6⟩ := HX.out w2 hb2
      have HX1 := Lib.hid hx1
      have HX2 := Lib.hid hx2
      have HX3 := Lib.hid hx3
      have HB2' := Lib.hid hb2
      clear hx1 hx2 hx3 hb2 HX HFI
      obtain ⟨w3, hw3⟩ : ∃ w3, w2.alloc (.cells #[.int .i64 5, .int .i64 W, .int .u64 g] 40) = w3 := ⟨_, rfl⟩
      rw [hw3] at HX1 HX2 HX3 hx4 hx5 hx6
      go_wp2_with fail
      refine (HLM.out w3 (Nat.le_of_lt HX3.out) (HRd.out.below (HX2.out.mono HB0.out))).mono ?_
      rintro r w4 ⟨vv, A', c', rfl, ho, hrd, hc', hb4⟩
      obtain ⟨Al, cl, rfl, hle, hnil, hat⟩ := ho.form
      obtain ⟨r1, r2, r3, r4⟩ := it_fill (HX1.out.on hb4) (HX2.out.trans (hb4.mono HX2.out.size)) (Nat.le_refl _) 5 0 ⟨#[]⟩ Al l.length cl
      have HXF := HX1.out.on hb4
      have u0 := HXF.cell 0
      have H1 := Lib.hid r1
      have H2 := Lib.hid r2
      have H3 := Lib.hid r3
      have HEND : Hid (AtS (w4.setRow w.heap.size #[.int .i64 5, .int .u64 0, .string ⟨#[]⟩, .slice Al l.length cl]) (fun b => w.heap.size ≤ b) (.mk 5 0 ⟨#[]⟩ l) Al cl ∧ Rd (w4.setRow w.heap.size #[.int .i64 5, .int .u64 0, .string ⟨#[]⟩, .slice Al l.length cl]) B0 .u8 A' (L.drop e')) := by
        refine ⟨⟨hle, hnil, AtL.keep (fun q hq hlt => r4.block q hlt (fun e => ?_)) (fun q hq => Nat.le_trans (Nat.le_of_lt HX3.out) hq) _ _ hat⟩, hrd.below (r4.below HB0.out (Nat.le_trans HB0.out (Nat.le_trans HX2.out.size hb4.size)))⟩
        injection e with e
        have := HX3.out
        omega
      have y6 := hb4.cell (p := ⟨w2.heap.size, 2, none⟩) (by have := block_lt_of_cell hx6; exact this) |>.trans hx6
      clear r1 r2 r3 r4 hb4 ho hat hrd HXF u0 hx4 hx5
      go_wp2_with ((with_reducible refine is_store 56 rfl ?_); (with_reducible refine wpList_store_run rfl rfl H1.out ?_ ?_ ?_); (· rfl); (· rfl))
      refine bodyPost_ret (results_blk2 rfl _ rfl H2.out Try.underlying56 rfl it_info) rfl ?_
      exact ⟨Al, cl, A', c', rfl, HEND.out.1, HEND.out.2, hc', H3.out⟩
    · rw [if_neg (by omega), if_pos (by omega)] at h
      have hmo : manyOf 6 g = 1 := by unfold manyOf; simp
      rw [hmo] at h
      split at h
      · cases h
      next l e' hl' =>
      injection h with h
      injection h with h1 h2
      rw [if_pos rfl] at h1
      subst h1 h2
      have hbd := prsMany_bd (B := L) (prs_bd HBL.out f) 1 b l e' hbL hl'
      clear hpb hmo
      have HLM : Hid (∀ v, w.heap.size ≤ v.heap.size → Rd v B0 .u8 A1 (L.drop b) → Calls Try.prog 40 #[.slice A1 (L.length - b) c1, .int .u64 1] v fun r w' => ∃ vv A' c', r = .returned (.tuple #[vv, .slice A' (L.length - e') c']) ∧ OwnT w' v.heap.size vv l ∧ Rd w' B0 .u8 A' (L.drop e') ∧ L.length - e' ≤ c' ∧ Below v.heap.size v w') := fun v hv hrd => by
        have := HMN.out 1 b l e' hl' hbL v A1 c1 B0 (Nat.le_trans HB0.out hv) hrd HC1.out
        rw [show ((1 : Nat) : Int) = 1 by omega] at this
        exact this
      clear HMN hl' hbd
      go_enter Try.func30, Try.ntmps30
      go_wp2_with fail
      refine HFI.out.mono ?_
      rintro r w2 ⟨rfl, hb2⟩
      obtain ⟨hx1, hx2, hx3, hx4, hx5, hx6⟩ := HX.out w2 hb2
      have HX1 := Lib.hid hx1
      have HX2 := Lib.hid hx2
      have HX3 := Lib.hid hx3
      have HB2' := Lib.hid hb2
      clear hx1 hx2 hx3 hb2 HX HFI
      obtain ⟨w3, hw3⟩ : ∃ w3, w2.alloc (.cells #[.int .i64 6, .int .i64 W, .int .u64 g] 40) = w3 := ⟨_, rfl⟩
      rw [hw3] at HX1 HX2 HX3 hx4 hx5 hx6
      go_wp2_with fail
      refine (HLM.out w3 (Nat.le_of_lt HX3.out) (HRd.out.below (HX2.out.mono HB0.out))).mono ?_
      rintro r w4 ⟨vv, A', c', rfl, ho, hrd, hc', hb4⟩
      obtain ⟨Al, cl, rfl, hle, hnil, hat⟩ := ho.form
      obtain ⟨r1, r2, r3, r4⟩ := it_fill (HX1.out.on hb4) (HX2.out.trans (hb4.mono HX2.out.size)) (Nat.le_refl _) 6 g ⟨#[]⟩ Al l.length cl
      have HXF := HX1.out.on hb4
      have u0 := HXF.cell 0
      have H1 := Lib.hid r1
      have H2 := Lib.hid r2
      have H3 := Lib.hid r3
      have HEND : Hid (AtS (w4.setRow w.heap.size #[.int .i64 6, .int .u64 g, .string ⟨#[]⟩, .slice Al l.length cl]) (fun b => w.heap.size ≤ b) (.mk 6 g ⟨#[]⟩ l) Al cl ∧ Rd (w4.setRow w.heap.size #[.int .i64 6, .int .u64 g, .string ⟨#[]⟩, .slice Al l.length cl]) B0 .u8 A' (L.drop e')) := by
        refine ⟨⟨hle, hnil, AtL.keep (fun q hq hlt => r4.block q hlt (fun e => ?_)) (fun q hq => Nat.le_trans (Nat.le_of_lt HX3.out) hq) _ _ hat⟩, hrd.below (r4.below HB0.out (Nat.le_trans HB0.out (Nat.le_trans HX2.out.size hb4.size)))⟩
        injection e with e
        have := HX3.out
        omega
      have y6 := hb4.cell (p := ⟨w2.heap.size, 2, none⟩) (by have := block_lt_of_cell hx6; exact this) |>.trans hx6
      clear r1 r2 r3 r4 hb4 ho hat hrd HXF u0 hx4 hx5
      go_wp2_with ((with_reducible refine is_store 56 rfl ?_); (with_reducible refine wpList_store_run rfl rfl H1.out ?_ ?_ ?_); (· rfl); (· rfl))
      refine bodyPost_ret (results_blk2 rfl _ rfl H2.out Try.underlying56 rfl it_info) rfl ?_
      exact ⟨Al, cl, A', c', rfl, HEND.out.1, HEND.out.2, hc', H3.out⟩
    · rw [if_neg (by omega), if_neg (by omega)] at h
      have hxe : x = .mk (if 1 < W then 8 else 7) (if 1 < W then widN W g else g) ⟨#[]⟩ [] ∧ b = e := by
        by_cases hw : 1 < W
        · rw [if_pos ⟨rfl, hw⟩] at h
          rw [if_pos hw, if_pos hw]
          injection h with h
          injection h with h1 h2
          exact ⟨h1.symm, h2⟩
        · rw [if_neg (fun q => hw q.2)] at h
          rw [if_neg hw, if_neg hw]
          injection h with h
          injection h with h1 h2
          exact ⟨h1.symm, h2⟩
      obtain ⟨rfl, rfl⟩ := hxe
      have HSI := Lib.hid (fun v => plain_simple 7 W g hW' hg0 hg1 v)
      obtain ⟨k8, hk8⟩ : ∃ z, (if 1 < W then (8 : Int) else 7) = z := ⟨_, rfl⟩
      obtain ⟨n8, hn8⟩ : ∃ z, (if 1 < W then widN W g else g) = z := ⟨_, rfl⟩
      rw [hk8, hn8] at HSI ⊢
      clear hk8 hn8 h hpb
      go_enter Try.func30, Try.ntmps30
      go_wp2_with fail
      refine HFI.out.mono ?_
      rintro r w2 ⟨rfl, hb2⟩
      obtain ⟨hx1, hx2, hx3, hx4, hx5, hx6⟩ := HX.out w2 hb2
      have HX1 := Lib.hid hx1
      have HX2 := Lib.hid hx2
      have HX3 := Lib.hid hx3
      have HB2' := Lib.hid hb2
      clear hx1 hx2 hx3 hb2 HX HFI
      obtain ⟨w3, hw3⟩ : ∃ w3, w2.alloc (.cells #[.int .i64 7, .int .i64 W, .int .u64 g] 40) = w3 := ⟨_, rfl⟩
      rw [hw3] at HX1 HX2 HX3 hx4 hx5 hx6
      go_wp2_with fail
      refine (HSI.out w3).mono ?_
      rintro r w4 ⟨rfl, hb4⟩
      obtain ⟨r1, r2, r3, r4⟩ := it_fill (HX1.out.on hb4) (HX2.out.trans (hb4.mono HX2.out.size)) (Nat.le_refl _) k8 n8 ⟨#[]⟩ none 0 0
      have H1 := Lib.hid r1
      have H2 := Lib.hid r2
      have H3 := Lib.hid r3
      clear r1 r2 r3 r4 hb4 hx4 hx5 hx6
      go_wp2_with ((with_reducible refine is_store 56 rfl ?_); (with_reducible refine wpList_store_run rfl rfl H1.out ?_ ?_ ?_); (· rfl); (· rfl))
      refine bodyPost_ret (results_blk2 rfl _ rfl H2.out Try.underlying56 rfl it_info) rfl ?_
      exact ⟨none, 0, A1, c1, rfl, ⟨Nat.le_refl _, fun _ => rfl, AtL.nil _⟩, HRd.out.below (H3.out.mono HB0.out), HC1.out, H3.out⟩
end Go.Proofs.Ytchhbcmkhbfpoaa
