/- Package order: New, Byte, End, Reset. -/
import Derived.Test.YtmclmfhimdppjaaKAE
import Derived.Deep.LoopGhost
namespace Go.Proofs.Ytmclmfhimdppjaa
open Go.RowKit

/-- A Keys that is being made: the first k lists have their memory. -/
def Mk (w : World) (B g m : Nat) : Nat → Prop
  | 0 => Blk w g 84 #[.slice none 0 0, .slice none 0 0, .int .i64 m, .bool false]
  | 1 => ∃ p, Blk w g 84 #[.slice (some ⟨p, 0, none⟩) 0 m, .slice none 0 0, .int .i64 m, .bool false] ∧ Own w B .u8 5 (.slice (some ⟨p, 0, none⟩) 0 m) [] ∧ p ≠ g ∧ p < w.heap.size
  | _ => ∃ p q, B ≤ p ∧ B ≤ q ∧ Ks w g p q m [] [] false
theorem Own.base0 {w B B' k t v zs} (h : Own w B k t v zs) (hb : B' ≤ B) : Own w B' k t v zs := by
  obtain ⟨h1, h2⟩ := h
  refine ⟨h1, ?_⟩
  rcases h2 with h2 | ⟨g, cap, cur, hv, hg, r⟩
  · exact .inl h2
  · exact .inr ⟨g, cap, cur, hv, by omega, r⟩

set_option maxRecDepth 100000 in
theorem order_New (w : World) (x : Int) (m : Nat) (hm : min (max x 0) 1024 = m) :
    Calls Try.prog 25 #[.int .i64 x] w fun e w' => ∃ g p q, e = .returned (.pointer (some ⟨g, 0, none⟩)) ∧ w.heap.size ≤ g ∧ w.heap.size ≤ p ∧ w.heap.size ≤ q ∧ Ks w' g p q m [] [] false ∧ Below w.heap.size w w' := by
  have hm' : m ≤ 1024 := by omega
  obtain ⟨hx, hm0⟩ | ⟨hx, hm0⟩ | ⟨hx, hx', hm0⟩ : (x < 0 ∧ m = 0) ∨ (1024 < x ∧ m = 1024) ∨ (0 ≤ x ∧ x ≤ 1024 ∧ x = m) := by omega
  all_goals subst hm0
  all_goals clear hm hm'
  all_goals go_enter Try.func25, Try.ntmps25
  all_goals go_wp2_with fail
  · obtain ⟨i0, hi0, hz0, hz1, hz2⟩ := info_parts info5
    go_loopw [10] (fun i wr => ∃ k : Nat, k ≤ 2 ∧ i = .int .i64 k ∧ Mk wr w.heap.size w.heap.size 0 k ∧ Below w.heap.size w wr) (fun i _ => 2 - (intOf i).toNat)
    case atStart => exact ⟨0, by omega, rfl, Blk.fresh _ _ _, below_alloc _ _⟩
    case round =>
    obtain ⟨k, hk, rfl, hM, hbl⟩ := hrel
    have hgs := hbl.size
    obtain rfl | rfl | rfl : k = 0 ∨ k = 1 ∨ k = 2 := by omega
    · have hb : Blk wr w.heap.size 84 #[.slice none 0 0, .slice none 0 0, .int .i64 0, .bool false] := hM
      have hgl := hb.lt
      obtain ⟨w1, hmk0, ho1, hg1⟩ := run_make_own (P := Try.prog) wr.drew wr.heap.size 22 5 i0 (.int .u8 0) 1 Try.underlying22 hi0 hz0 hz1 .i64 .i64 0 (by rw [hz2]; omega) (by unfold maxLen; omega) (Nat.le_refl _)
      have hmk : (Instr.makeSlice 22 (.int .i64 0) (.int .i64 0)).run Try.prog wr.drew = .ok (.slice (some ⟨wr.heap.size, 0, none⟩) 0 0) w1 := hmk0
      have o1 : Own w1 wr.heap.size .u8 5 (.slice (some ⟨wr.heap.size, 0, none⟩) 0 0) [] := ho1
      have hb1 : Below wr.heap.size wr.drew w1 := (Own.nil wr.drew wr.heap.size .u8 5).grown hg1 (Nat.le_refl _)
      have hbk : Blk w1 w.heap.size 84 #[.slice none 0 0, .slice none 0 0, .int .i64 0, .bool false] := hb.drew.below hb1 hgl
      have hlt : wr.heap.size < w1.heap.size := o1.lt0
      have a2 := hb.drew.cell 2
      have b0 := hbk.cell 0
      have fz := hbk.free 0
      simp only [List.getElem?_toArray, List.getElem?_cons_zero, List.getElem?_cons_succ] at a2 b0
      have HF := Lib.hid hbk
      have HB := Lib.hid ((below_drawn hbl).trans (hb1.mono hgs))
      have HO := Lib.hid o1
      have HLT := Lib.hid hlt
      have HGL := Lib.hid hgl
      have HGS := Lib.hid hgs
      
      
      
      clear hmk0 ho1 hg1 o1 hb1 hbk hb hM hbl hlt hgl hgs hi0 hz0 hz1 hz2
      generalize wr.heap.size = h at *
      go_wp2_with fail
      go_region
      go_wp2_with fail
      go_roundw
      case rel => exact ⟨1, by omega, by rfl, ⟨h, HF.out.put 0 _, (HO.out.on1 (Below.heap_setCell w1 _ _ h (by have := HGS.out; have := HGL.out; simp; omega))).base0 HGS.out, by have := HGL.out; omega, by simpa using HLT.out⟩, HB.out.setCell (Nat.le_refl _) _⟩
      case measure => simp [intOf]
    · obtain ⟨p, hb0, ow, hpg, hps⟩ := hM
      have hb : Blk wr w.heap.size 84 #[.slice (some ⟨p, 0, none⟩) 0 0, .slice none 0 0, .int .i64 0, .bool false] := hb0
      clear hb0
      have hgl := hb.lt
      obtain ⟨w1, hmk0, ho1, hg1⟩ := run_make_own (P := Try.prog) wr.drew wr.heap.size 22 5 i0 (.int .u8 0) 1 Try.underlying22 hi0 hz0 hz1 .i64 .i64 0 (by rw [hz2]; omega) (by unfold maxLen; omega) (Nat.le_refl _)
      have hmk : (Instr.makeSlice 22 (.int .i64 0) (.int .i64 0)).run Try.prog wr.drew = .ok (.slice (some ⟨wr.heap.size, 0, none⟩) 0 0) w1 := hmk0
      have o1 : Own w1 wr.heap.size .u8 5 (.slice (some ⟨wr.heap.size, 0, none⟩) 0 0) [] := ho1
      have hb1 : Below wr.heap.size wr.drew w1 := (Own.nil wr.drew wr.heap.size .u8 5).grown hg1 (Nat.le_refl _)
      have hbk : Blk w1 w.heap.size 84 #[.slice (some ⟨p, 0, none⟩) 0 0, .slice none 0 0, .int .i64 0, .bool false] := hb.drew.below hb1 hgl
      have hlt : wr.heap.size < w1.heap.size := o1.lt0
      have a2 := hb.drew.cell 2
      have b1 := hbk.cell 1
      have fz := hbk.free 1
      simp only [List.getElem?_toArray, List.getElem?_cons_zero, List.getElem?_cons_succ] at a2 b1
      have HF := Lib.hid hbk
      have HB := Lib.hid ((below_drawn hbl).trans (hb1.mono hgs))
      have HO := Lib.hid o1
      have HLT := Lib.hid hlt
      have HGL := Lib.hid hgl
      have HGS := Lib.hid hgs
      have HOW := Lib.hid (ow.drew.below (hb1.mono (Nat.le_refl _)))
      have HPG := Lib.hid hpg
      have HPS := Lib.hid hps
      clear hmk0 ho1 hg1 o1 hb1 hbk hb ow hpg hps hbl hlt hgl hgs hi0 hz0 hz1 hz2
      generalize wr.heap.size = h at *
      go_wp2_with fail
      go_region
      go_wp2_with fail
      go_roundw
      case rel => exact ⟨2, by omega, by rfl, ⟨p, h, HOW.out.ge, HGS.out, ⟨HF.out.put 1 _, by have := HPS.out; omega, HPG.out, by have := HGL.out; omega, (HOW.out.on1 (Below.heap_setCell w1 _ _ p HPG.out)).base0 (Nat.zero_le _), (HO.out.on1 (Below.heap_setCell w1 _ _ h (by have := HGL.out; simp; omega))).base0 (Nat.zero_le _), by have := HPS.out; have := HLT.out; simp; omega, by simpa using HLT.out, Nat.zero_le _, Nat.zero_le _, by omega⟩⟩, HB.out.setCell (Nat.le_refl _) _⟩
      case measure => simp [intOf]
    · obtain ⟨p, q, h1, h2, h3⟩ := hM
      have H1 := Lib.hid h3
      have H2 := Lib.hid hbl
      clear h3 hbl hi0 hz0 hz1 hz2
      go_wp2_with fail
      go_ret
      exact ⟨w.heap.size, p, q, rfl, Nat.le_refl _, h1, h2, H1.out, H2.out⟩
  · obtain ⟨i0, hi0, hz0, hz1, hz2⟩ := info_parts info5
    go_loopw [10] (fun i wr => ∃ k : Nat, k ≤ 2 ∧ i = .int .i64 k ∧ Mk wr w.heap.size w.heap.size 1024 k ∧ Below w.heap.size w wr) (fun i _ => 2 - (intOf i).toNat)
    case atStart => exact ⟨0, by omega, rfl, Blk.fresh _ _ _, below_alloc _ _⟩
    case round =>
    obtain ⟨k, hk, rfl, hM, hbl⟩ := hrel
    have hgs := hbl.size
    obtain rfl | rfl | rfl : k = 0 ∨ k = 1 ∨ k = 2 := by omega
    · have hb : Blk wr w.heap.size 84 #[.slice none 0 0, .slice none 0 0, .int .i64 1024, .bool false] := hM
      have hgl := hb.lt
      obtain ⟨w1, hmk0, ho1, hg1⟩ := run_make_own (P := Try.prog) wr.drew wr.heap.size 22 5 i0 (.int .u8 0) 1 Try.underlying22 hi0 hz0 hz1 .i64 .i64 1024 (by rw [hz2]; omega) (by unfold maxLen; omega) (Nat.le_refl _)
      have hmk : (Instr.makeSlice 22 (.int .i64 0) (.int .i64 1024)).run Try.prog wr.drew = .ok (.slice (some ⟨wr.heap.size, 0, none⟩) 0 1024) w1 := hmk0
      have o1 : Own w1 wr.heap.size .u8 5 (.slice (some ⟨wr.heap.size, 0, none⟩) 0 1024) [] := ho1
      have hb1 : Below wr.heap.size wr.drew w1 := (Own.nil wr.drew wr.heap.size .u8 5).grown hg1 (Nat.le_refl _)
      have hbk : Blk w1 w.heap.size 84 #[.slice none 0 0, .slice none 0 0, .int .i64 1024, .bool false] := hb.drew.below hb1 hgl
      have hlt : wr.heap.size < w1.heap.size := o1.lt0
      have a2 := hb.drew.cell 2
      have b0 := hbk.cell 0
      have fz := hbk.free 0
      simp only [List.getElem?_toArray, List.getElem?_cons_zero, List.getElem?_cons_succ] at a2 b0
      have HF := Lib.hid hbk
      have HB := Lib.hid ((below_drawn hbl).trans (hb1.mono hgs))
      have HO := Lib.hid o1
      have HLT := Lib.hid hlt
      have HGL := Lib.hid hgl
      have HGS := Lib.hid hgs
      
      
      
      clear hmk0 ho1 hg1 o1 hb1 hbk hb hM hbl hlt hgl hgs hi0 hz0 hz1 hz2
      generalize wr.heap.size = h at *
      go_wp2_with fail
      go_region
      go_wp2_with fail
      go_roundw
      case rel => exact ⟨1, by omega, by rfl, ⟨h, HF.out.put 0 _, (HO.out.on1 (Below.heap_setCell w1 _ _ h (by have := HGS.out; have := HGL.out; simp; omega))).base0 HGS.out, by have := HGL.out; omega, by simpa using HLT.out⟩, HB.out.setCell (Nat.le_refl _) _⟩
      case measure => simp [intOf]
    · obtain ⟨p, hb0, ow, hpg, hps⟩ := hM
      have hb : Blk wr w.heap.size 84 #[.slice (some ⟨p, 0, none⟩) 0 1024, .slice none 0 0, .int .i64 1024, .bool false] := hb0
      clear hb0
      have hgl := hb.lt
      obtain ⟨w1, hmk0, ho1, hg1⟩ := run_make_own (P := Try.prog) wr.drew wr.heap.size 22 5 i0 (.int .u8 0) 1 Try.underlying22 hi0 hz0 hz1 .i64 .i64 1024 (by rw [hz2]; omega) (by unfold maxLen; omega) (Nat.le_refl _)
      have hmk : (Instr.makeSlice 22 (.int .i64 0) (.int .i64 1024)).run Try.prog wr.drew = .ok (.slice (some ⟨wr.heap.size, 0, none⟩) 0 1024) w1 := hmk0
      have o1 : Own w1 wr.heap.size .u8 5 (.slice (some ⟨wr.heap.size, 0, none⟩) 0 1024) [] := ho1
      have hb1 : Below wr.heap.size wr.drew w1 := (Own.nil wr.drew wr.heap.size .u8 5).grown hg1 (Nat.le_refl _)
      have hbk : Blk w1 w.heap.size 84 #[.slice (some ⟨p, 0, none⟩) 0 1024, .slice none 0 0, .int .i64 1024, .bool false] := hb.drew.below hb1 hgl
      have hlt : wr.heap.size < w1.heap.size := o1.lt0
      have a2 := hb.drew.cell 2
      have b1 := hbk.cell 1
      have fz := hbk.free 1
      simp only [List.getElem?_toArray, List.getElem?_cons_zero, List.getElem?_cons_succ] at a2 b1
      have HF := Lib.hid hbk
      have HB := Lib.hid ((below_drawn hbl).trans (hb1.mono hgs))
      have HO := Lib.hid o1
      have HLT := Lib.hid hlt
      have HGL := Lib.hid hgl
      have HGS := Lib.hid hgs
      have HOW := Lib.hid (ow.drew.below (hb1.mono (Nat.le_refl _)))
      have HPG := Lib.hid hpg
      have HPS := Lib.hid hps
      clear hmk0 ho1 hg1 o1 hb1 hbk hb ow hpg hps hbl hlt hgl hgs hi0 hz0 hz1 hz2
      generalize wr.heap.size = h at *
      go_wp2_with fail
      go_region
      go_wp2_with fail
      go_roundw
      case rel => exact ⟨2, by omega, by rfl, ⟨p, h, HOW.out.ge, HGS.out, ⟨HF.out.put 1 _, by have := HPS.out; omega, HPG.out, by have := HGL.out; omega, (HOW.out.on1 (Below.heap_setCell w1 _ _ p HPG.out)).base0 (Nat.zero_le _), (HO.out.on1 (Below.heap_setCell w1 _ _ h (by have := HGL.out; simp; omega))).base0 (Nat.zero_le _), by have := HPS.out; have := HLT.out; simp; omega, by simpa using HLT.out, Nat.zero_le _, Nat.zero_le _, by omega⟩⟩, HB.out.setCell (Nat.le_refl _) _⟩
      case measure => simp [intOf]
    · obtain ⟨p, q, h1, h2, h3⟩ := hM
      have H1 := Lib.hid h3
      have H2 := Lib.hid hbl
      clear h3 hbl hi0 hz0 hz1 hz2
      go_wp2_with fail
      go_ret
      exact ⟨w.heap.size, p, q, rfl, Nat.le_refl _, h1, h2, H1.out, H2.out⟩
  · obtain ⟨i0, hi0, hz0, hz1, hz2⟩ := info_parts info5
    go_loopw [10] (fun i wr => ∃ k : Nat, k ≤ 2 ∧ i = .int .i64 k ∧ Mk wr w.heap.size w.heap.size m k ∧ Below w.heap.size w wr) (fun i _ => 2 - (intOf i).toNat)
    case atStart => exact ⟨0, by omega, rfl, Blk.fresh _ _ _, below_alloc _ _⟩
    case round =>
    obtain ⟨k, hk, rfl, hM, hbl⟩ := hrel
    have hgs := hbl.size
    obtain rfl | rfl | rfl : k = 0 ∨ k = 1 ∨ k = 2 := by omega
    · have hb : Blk wr w.heap.size 84 #[.slice none 0 0, .slice none 0 0, .int .i64 m, .bool false] := hM
      have hgl := hb.lt
      obtain ⟨w1, hmk0, ho1, hg1⟩ := run_make_own (P := Try.prog) wr.drew wr.heap.size 22 5 i0 (.int .u8 0) 1 Try.underlying22 hi0 hz0 hz1 .i64 .i64 m (by rw [hz2]; omega) (by unfold maxLen; omega) (Nat.le_refl _)
      have hmk : (Instr.makeSlice 22 (.int .i64 0) (.int .i64 m)).run Try.prog wr.drew = .ok (.slice (some ⟨wr.heap.size, 0, none⟩) 0 m) w1 := hmk0
      have o1 : Own w1 wr.heap.size .u8 5 (.slice (some ⟨wr.heap.size, 0, none⟩) 0 m) [] := ho1
      have hb1 : Below wr.heap.size wr.drew w1 := (Own.nil wr.drew wr.heap.size .u8 5).grown hg1 (Nat.le_refl _)
      have hbk : Blk w1 w.heap.size 84 #[.slice none 0 0, .slice none 0 0, .int .i64 m, .bool false] := hb.drew.below hb1 hgl
      have hlt : wr.heap.size < w1.heap.size := o1.lt0
      have a2 := hb.drew.cell 2
      have b0 := hbk.cell 0
      have fz := hbk.free 0
      simp only [List.getElem?_toArray, List.getElem?_cons_zero, List.getElem?_cons_succ] at a2 b0
      have HF := Lib.hid hbk
      have HB := Lib.hid ((below_drawn hbl).trans (hb1.mono hgs))
      have HO := Lib.hid o1
      have HLT := Lib.hid hlt
      have HGL := Lib.hid hgl
      have HGS := Lib.hid hgs
      
      
      
      clear hmk0 ho1 hg1 o1 hb1 hbk hb hM hbl hlt hgl hgs hi0 hz0 hz1 hz2
      generalize wr.heap.size = h at *
      go_wp2_with fail
      go_region
      go_wp2_with fail
      go_roundw
      case rel => exact ⟨1, by omega, by rfl, ⟨h, HF.out.put 0 _, (HO.out.on1 (Below.heap_setCell w1 _ _ h (by have := HGS.out; have := HGL.out; simp; omega))).base0 HGS.out, by have := HGL.out; omega, by simpa using HLT.out⟩, HB.out.setCell (Nat.le_refl _) _⟩
      case measure => simp [intOf]
    · obtain ⟨p, hb0, ow, hpg, hps⟩ := hM
      have hb : Blk wr w.heap.size 84 #[.slice (some ⟨p, 0, none⟩) 0 m, .slice none 0 0, .int .i64 m, .bool false] := hb0
      clear hb0
      have hgl := hb.lt
      obtain ⟨w1, hmk0, ho1, hg1⟩ := run_make_own (P := Try.prog) wr.drew wr.heap.size 22 5 i0 (.int .u8 0) 1 Try.underlying22 hi0 hz0 hz1 .i64 .i64 m (by rw [hz2]; omega) (by unfold maxLen; omega) (Nat.le_refl _)
      have hmk : (Instr.makeSlice 22 (.int .i64 0) (.int .i64 m)).run Try.prog wr.drew = .ok (.slice (some ⟨wr.heap.size, 0, none⟩) 0 m) w1 := hmk0
      have o1 : Own w1 wr.heap.size .u8 5 (.slice (some ⟨wr.heap.size, 0, none⟩) 0 m) [] := ho1
      have hb1 : Below wr.heap.size wr.drew w1 := (Own.nil wr.drew wr.heap.size .u8 5).grown hg1 (Nat.le_refl _)
      have hbk : Blk w1 w.heap.size 84 #[.slice (some ⟨p, 0, none⟩) 0 m, .slice none 0 0, .int .i64 m, .bool false] := hb.drew.below hb1 hgl
      have hlt : wr.heap.size < w1.heap.size := o1.lt0
      have a2 := hb.drew.cell 2
      have b1 := hbk.cell 1
      have fz := hbk.free 1
      simp only [List.getElem?_toArray, List.getElem?_cons_zero, List.getElem?_cons_succ] at a2 b1
      have HF := Lib.hid hbk
      have HB := Lib.hid ((below_drawn hbl).trans (hb1.mono hgs))
      have HO := Lib.hid o1
      have HLT := Lib.hid hlt
      have HGL := Lib.hid hgl
      have HGS := Lib.hid hgs
      have HOW := Lib.hid (ow.drew.below (hb1.mono (Nat.le_refl _)))
      have HPG := Lib.hid hpg
      have HPS := Lib.hid hps
      clear hmk0 ho1 hg1 o1 hb1 hbk hb ow hpg hps hbl hlt hgl hgs hi0 hz0 hz1 hz2
      generalize wr.heap.size = h at *
      go_wp2_with fail
      go_region
      go_wp2_with fail
      go_roundw
      case rel => exact ⟨2, by omega, by rfl, ⟨p, h, HOW.out.ge, HGS.out, ⟨HF.out.put 1 _, by have := HPS.out; omega, HPG.out, by have := HGL.out; omega, (HOW.out.on1 (Below.heap_setCell w1 _ _ p HPG.out)).base0 (Nat.zero_le _), (HO.out.on1 (Below.heap_setCell w1 _ _ h (by have := HGL.out; simp; omega))).base0 (Nat.zero_le _), by have := HPS.out; have := HLT.out; simp; omega, by simpa using HLT.out, Nat.zero_le _, Nat.zero_le _, by omega⟩⟩, HB.out.setCell (Nat.le_refl _) _⟩
      case measure => simp [intOf]
    · obtain ⟨p, q, h1, h2, h3⟩ := hM
      have H1 := Lib.hid h3
      have H2 := Lib.hid hbl
      clear h3 hbl hi0 hz0 hz1 hz2
      go_wp2_with fail
      go_ret
      exact ⟨w.heap.size, p, q, rfl, Nat.le_refl _, h1, h2, H1.out, H2.out⟩
end Go.Proofs.Ytmclmfhimdppjaa
