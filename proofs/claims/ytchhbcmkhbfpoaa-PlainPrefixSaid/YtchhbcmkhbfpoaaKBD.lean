/- Package order: New, Byte, End, Reset. -/
import Derived.Test.YtchhbcmkhbfpoaaKAK
import Derived.Deep.LoopGhost
import Derived.Deep.RegionLaw
import Derived.Test.YtchhbcmkhbfpoaaKAN
namespace Go.Proofs.Ytchhbcmkhbfpoaa
open Go.RowKit

/-- A Keys that is being made: the first k lists have their memory. -/
def Mk (w : World) (B g m : Nat) : Nat → Prop
  | 0 => Blk w g 111 #[.slice none 0 0, .slice none 0 0, .int .i64 m, .bool false]
  | 1 => ∃ p, Blk w g 111 #[.slice (some ⟨p, 0, none⟩) 0 m, .slice none 0 0, .int .i64 m, .bool false] ∧ Own w B .u8 5 (.slice (some ⟨p, 0, none⟩) 0 m) [] ∧ p ≠ g ∧ p < w.heap.size
  | _ => ∃ p q, B ≤ p ∧ B ≤ q ∧ Ks w g p q m [] [] false
theorem Own.base0 {w B B' k t v zs} (h : Own w B k t v zs) (hb : B' ≤ B) : Own w B' k t v zs := by
  obtain ⟨h1, h2⟩ := h
  refine ⟨h1, ?_⟩
  rcases h2 with h2 | ⟨g, cap, cur, hv, hg, r⟩
  · exact .inl h2
  · exact .inr ⟨g, cap, cur, hv, by omega, r⟩

set_option maxRecDepth 100000 in
theorem order_New (w : World) (x : Int) (m : Nat) (hm : min (max x 0) 1024 = m) :
    Calls Try.prog 34 #[.int .i64 x] w fun e w' => ∃ g p q, e = .returned (.pointer (some ⟨g, 0, none⟩)) ∧ w.heap.size ≤ g ∧ w.heap.size ≤ p ∧ w.heap.size ≤ q ∧ Ks w' g p q m [] [] false ∧ Below w.heap.size w w' := by
  have hm' : m ≤ 1024 := by omega
  obtain ⟨hx, hm0⟩ | ⟨hx, hm0⟩ | ⟨hx, hx', hm0⟩ : (x < 0 ∧ m = 0) ∨ (1024 < x ∧ m = 1024) ∨ (0 ≤ x ∧ x ≤ 1024 ∧ x = m) := by omega
  all_goals subst hm0
  all_goals clear hm hm'
  all_goals go_enter Try.func34, Try.ntmps34
  all_goals go_wp2_with fail
  · obtain ⟨i0, hi0, hz0, hz1, hz2⟩ := info_parts info5
    go_loopw [10] (fun i wr => ∃ k : Nat, k ≤ 2 ∧ i = .int .i64 k ∧ Mk wr w.heap.size w.heap.size 0 k ∧ Below w.heap.size w wr) (fun i _ => 2 - (intOf i).toNat)
    case atStart => exact ⟨0, by omega, rfl, Blk.fresh _ _ _, below_alloc _ _⟩
    case round =>
    obtain ⟨k, hk, rfl, hM, hbl⟩ := hrel
    have hgs := hbl.size
    obtain rfl | rfl | rfl : k = 0 ∨ k = 1 ∨ k = 2 := by omega
    · have hb : Blk wr w.heap.size 111 #[.slice none 0 0, .slice none 0 0, .int .i64 0, .bool false] := hM
      have hgl := hb.lt
      obtain ⟨w1, hmk0, ho1, hg1⟩ := run_make_own (P := Try.prog) wr.drew wr.heap.size 22 5 i0 (.int .u8 0) 1 Try.underlying22 hi0 hz0 hz1 .i64 .i64 0 (by rw [hz2]; omega) (by unfold maxLen; omega) (Nat.le_refl _)
      have hmk : (Instr.makeSlice 22 (.int .i64 0) (.int .i64 0)).run Try.prog wr.drew = .ok (.slice (some ⟨wr.heap.size, 0, none⟩) 0 0) w1 := hmk0
      have o1 : Own w1 wr.heap.size .u8 5 (.slice (some ⟨wr.heap.size, 0, none⟩) 0 0) [] := ho1
      have hb1 : Below wr.heap.size wr.drew w1 := (Own.nil wr.drew wr.heap.size .u8 5).grown hg1 (Nat.le_refl _)
      have hbk : Blk w1 w.heap.size 111 #[.slice none 0 0, .slice none 0 0, .int .i64 0, .bool false] := hb.drew.below hb1 hgl
      have hlt : wr.heap.size < w1.heap.size := o1.lt0
      have a2 := hb.drew.cell 2
      have b0 := hbk.cell 0
      have fz := hbk.free 0
      simp only [List.getElem?_toArray, List.getElem?_cons_zero, List.getElem?_cons_succ] at a2 b0
      have HF := Lib.hid hbk
      have HB := Lib.hid ((below_drawn hbl).trans (hb1.mono hgs))
      have HO := Lib.hid o1
      have HLT := Lib.hid hlt
      have HGL := Lib.hid hgl
      have HGS := Lib.hid hgs
      
      
      
      clear hmk0 ho1 hg1 o1 hb1 hbk hb hM hbl hlt hgl hgs hi0 hz0 hz1 hz2
      generalize wr.heap.size = h at *
      go_wp2_with fail
      go_region
      go_wp2_with fail
      go_roundw
      case rel => exact ⟨1, by omega, by rfl, ⟨h, HF.out.put 0 _, (HO.out.on1 (Below.heap_setCell w1 _ _ h (by have := HGS.out; have := HGL.out; simp; omega))).base0 HGS.out, by have := HGL.out; omega, by simpa using HLT.out⟩, HB.out.setCell (Nat.le_refl _) _⟩
      case measure => simp [intOf]
    · obtain ⟨p, hb0, ow, hpg, hps⟩ := hM
      have hb : Blk wr w.heap.size 111 #[.slice (some ⟨p, 0, none⟩) 0 0, .slice none 0 0, .int .i64 0, .bool false] := hb0
      clear hb0
      have hgl := hb.lt
      obtain ⟨w1, hmk0, ho1, hg1⟩ := run_make_own (P := Try.prog) wr.drew wr.heap.size 22 5 i0 (.int .u8 0) 1 Try.underlying22 hi0 hz0 hz1 .i64 .i64 0 (by rw [hz2]; omega) (by unfold maxLen; omega) (Nat.le_refl _)
      have hmk : (Instr.makeSlice 22 (.int .i64 0) (.int .i64 0)).run Try.prog wr.drew = .ok (.slice (some ⟨wr.heap.size, 0, none⟩) 0 0) w1 := hmk0
      have o1 : Own w1 wr.heap.size .u8 5 (.slice (some ⟨wr.heap.size, 0, none⟩) 0 0) [] := ho1
      have hb1 : Below wr.heap.size wr.drew w1 := (Own.nil wr.drew wr.heap.size .u8 5).grown hg1 (Nat.le_refl _)
      have hbk : Blk w1 w.heap.size 111 #[.slice (some ⟨p, 0, none⟩) 0 0, .slice none 0 0, .int .i64 0, .bool false] := hb.drew.below hb1 hgl
      have hlt : wr.heap.size < w1.heap.size := o1.lt0
      have a2 := hb.drew.cell 2
      have b1 := hbk.cell 1
      have fz := hbk.free 1
      simp only [List.getElem?_toArray, List.getElem?_cons_zero, List.getElem?_cons_succ] at a2 b1
      have HF := Lib.hid hbk
      have HB := Lib.hid ((below_drawn hbl).trans (hb1.mono hgs))
      have HO := Lib.hid o1
      have HLT := Lib.hid hlt
      have HGL := Lib.hid hgl
      have HGS := Lib.hid hgs
      have HOW := Lib.hid (ow.drew.below (hb1.mono (Nat.le_refl _)))
      have HPG := Lib.hid hpg
      have HPS := Lib.hid hps
      clear hmk0 ho1 hg1 o1 hb1 hbk hb ow hpg hps hbl hlt hgl hgs hi0 hz0 hz1 hz2
      generalize wr.heap.size = h at *
      go_wp2_with fail
      go_region
      go_wp2_with fail
      go_roundw
      case rel => exact ⟨2, by omega, by rfl, ⟨p, h, HOW.out.ge, HGS.out, ⟨HF.out.put 1 _, by have := HPS.out; omega, HPG.out, by have := HGL.out; omega, (HOW.out.on1 (Below.heap_setCell w1 _ _ p HPG.out)).base0 (Nat.zero_le _), (HO.out.on1 (Below.heap_setCell w1 _ _ h (by have := HGL.out; simp; omega))).base0 (Nat.zero_le _), by have := HPS.out; have := HLT.out; simp; omega, by simpa using HLT.out, Nat.zero_le _, Nat.zero_le _, by omega⟩⟩, HB.out.setCell (Nat.le_refl _) _⟩
      case measure => simp [intOf]
    · obtain ⟨p, q, h1, h2, h3⟩ := hM
      have H1 := Lib.hid h3
      have H2 := Lib.hid hbl
      clear h3 hbl hi0 hz0 hz1 hz2
      go_wp2_with fail
      go_ret
      exact ⟨w.heap.size, p, q, rfl, Nat.le_refl _, h1, h2, H1.out, H2.out⟩
  · obtain ⟨i0, hi0, hz0, hz1, hz2⟩ := info_parts info5
    go_loopw [10] (fun i wr => ∃ k : Nat, k ≤ 2 ∧ i = .int .i64 k ∧ Mk wr w.heap.size w.heap.size 1024 k ∧ Below w.heap.size w wr) (fun i _ => 2 - (intOf i).toNat)
    case atStart => exact ⟨0, by omega, rfl, Blk.fresh _ _ _, below_alloc _ _⟩
    case round =>
    obtain ⟨k, hk, rfl, hM, hbl⟩ := hrel
    have hgs := hbl.size
    obtain rfl | rfl | rfl : k = 0 ∨ k = 1 ∨ k = 2 := by omega
    · have hb : Blk wr w.heap.size 111 #[.slice none 0 0, .slice none 0 0, .int .i64 1024, .bool false] := hM
      have hgl := hb.lt
      obtain ⟨w1, hmk0, ho1, hg1⟩ := run_make_own (P := Try.prog) wr.drew wr.heap.size 22 5 i0 (.int .u8 0) 1 Try.underlying22 hi0 hz0 hz1 .i64 .i64 1024 (by rw [hz2]; omega) (by unfold maxLen; omega) (Nat.le_refl _)
      have hmk : (Instr.makeSlice 22 (.int .i64 0) (.int .i64 1024)).run Try.prog wr.drew = .ok (.slice (some ⟨wr.heap.size, 0, none⟩) 0 1024) w1 := hmk0
      have o1 : Own w1 wr.heap.size .u8 5 (.slice (some ⟨wr.heap.size, 0, none⟩) 0 1024) [] := ho1
      have hb1 : Below wr.heap.size wr.drew w1 := (Own.nil wr.drew wr.heap.size .u8 5).grown hg1 (Nat.le_refl _)
      have hbk : Blk w1 w.heap.size 111 #[.slice none 0 0, .slice none 0 0, .int .i64 1024, .bool false] := hb.drew.below hb1 hgl
      have hlt : wr.heap.size < w1.heap.size := o1.lt0
      have a2 := hb.drew.cell 2
      have b0 := hbk.cell 0
      have fz := hbk.free 0
      simp only [List.getElem?_toArray, List.getElem?_cons_zero, List.getElem?_cons_succ] at a2 b0
      have HF := Lib.hid hbk
      have HB := Lib.hid ((below_drawn hbl).trans (hb1.mono hgs))
      have HO := Lib.hid o1
      have HLT := Lib.hid hlt
      have HGL := Lib.hid hgl
      have HGS := Lib.hid hgs
      
      
      
      clear hmk0 ho1 hg1 o1 hb1 hbk hb hM hbl hlt hgl hgs hi0 hz0 hz1 hz2
      generalize wr.heap.size = h at *
      go_wp2_with fail
      go_region
      go_wp2_with fail
      go_roundw
      case rel => exact ⟨1, by omega, by rfl, ⟨h, HF.out.put 0 _, (HO.out.on1 (Below.heap_setCell w1 _ _ h (by have := HGS.out; have := HGL.out; simp; omega))).base0 HGS.out, by have := HGL.out; omega, by simpa using HLT.out⟩, HB.out.setCell (Nat.le_refl _) _⟩
      case measure => simp [intOf]
    · obtain ⟨p, hb0, ow, hpg, hps⟩ := hM
      have hb : Blk wr w.heap.size 111 #[.slice (some ⟨p, 0, none⟩) 0 1024, .slice none 0 0, .int .i64 1024, .bool false] := hb0
      clear hb0
      have hgl := hb.lt
      obtain ⟨w1, hmk0, ho1, hg1⟩ := run_make_own (P := Try.prog) wr.drew wr.heap.size 22 5 i0 (.int .u8 0) 1 Try.underlying22 hi0 hz0 hz1 .i64 .i64 1024 (by rw [hz2]; omega) (by unfold maxLen; omega) (Nat.le_refl _)
      have hmk : (Instr.makeSlice 22 (.int .i64 0) (.int .i64 1024)).run Try.prog wr.drew = .ok (.slice (some ⟨wr.heap.size, 0, none⟩) 0 1024) w1 := hmk0
      have o1 : Own w1 wr.heap.size .u8 5 (.slice (some ⟨wr.heap.size, 0, none⟩) 0 1024) [] := ho1
      have hb1 : Below wr.heap.size wr.drew w1 := (Own.nil wr.drew wr.heap.size .u8 5).grown hg1 (Nat.le_refl _)
      have hbk : Blk w1 w.heap.size 111 #[.slice (some ⟨p, 0, none⟩) 0 1024, .slice none 0 0, .int .i64 1024, .bool false] := hb.drew.below hb1 hgl
      have hlt : wr.heap.size < w1.heap.size := o1.lt0
      have a2 := hb.drew.cell 2
      have b1 := hbk.cell 1
      have fz := hbk.free 1
      simp only [List.getElem?_toArray, List.getElem?_cons_zero, List.getElem?_cons_succ] at a2 b1
      have HF := Lib.hid hbk
      have HB := Lib.hid ((below_drawn hbl).trans (hb1.mono hgs))
      have HO := Lib.hid o1
      have HLT := Lib.hid hlt
      have HGL := Lib.hid hgl
      have HGS := Lib.hid hgs
      have HOW := Lib.hid (ow.drew.below (hb1.mono (Nat.le_refl _)))
      have HPG := Lib.hid hpg
      have HPS := Lib.hid hps
      clear hmk0 ho1 hg1 o1 hb1 hbk hb ow hpg hps hbl hlt hgl hgs hi0 hz0 hz1 hz2
      generalize wr.heap.size = h at *
      go_wp2_with fail
      go_region
      go_wp2_with fail
      go_roundw
      case rel => exact ⟨2, by omega, by rfl, ⟨p, h, HOW.out.ge, HGS.out, ⟨HF.out.put 1 _, by have := HPS.out; omega, HPG.out, by have := HGL.out; omega, (HOW.out.on1 (Below.heap_setCell w1 _ _ p HPG.out)).base0 (Nat.zero_le _), (HO.out.on1 (Below.heap_setCell w1 _ _ h (by have := HGL.out; simp; omega))).base0 (Nat.zero_le _), by have := HPS.out; have := HLT.out; simp; omega, by simpa using HLT.out, Nat.zero_le _, Nat.zero_le _, by omega⟩⟩, HB.out.setCell (Nat.le_refl _) _⟩
      case measure => simp [intOf]
    · obtain ⟨p, q, h1, h2, h3⟩ := hM
      have H1 := Lib.hid h3
      have H2 := Lib.hid hbl
      clear h3 hbl hi0 hz0 hz1 hz2
      go_wp2_with fail
      go_ret
      exact ⟨w.heap.size, p, q, rfl, Nat.le_refl _, h1, h2, H1.out, H2.out⟩
  · obtain ⟨i0, hi0, hz0, hz1, hz2⟩ := info_parts info5
    go_loopw [10] (fun i wr => ∃ k : Nat, k ≤ 2 ∧ i = .int .i64 k ∧ Mk wr w.heap.size w.heap.size m k ∧ Below w.heap.size w wr) (fun i _ => 2 - (intOf i).toNat)
    case atStart => exact ⟨0, by omega, rfl, Blk.fresh _ _ _, below_alloc _ _⟩
    case round =>
    obtain ⟨k, hk, rfl, hM, hbl⟩ := hrel
    have hgs := hbl.size
    obtain rfl | rfl | rfl : k = 0 ∨ k = 1 ∨ k = 2 := by omega
    · have hb : Blk wr w.heap.size 111 #[.slice none 0 0, .slice none 0 0, .int .i64 m, .bool false] := hM
      have hgl := hb.lt
      obtain ⟨w1, hmk0, ho1, hg1⟩ := run_make_own (P := Try.prog) wr.drew wr.heap.size 22 5 i0 (.int .u8 0) 1 Try.underlying22 hi0 hz0 hz1 .i64 .i64 m (by rw [hz2]; omega) (by unfold maxLen; omega) (Nat.le_refl _)
      have hmk : (Instr.makeSlice 22 (.int .i64 0) (.int .i64 m)).run Try.prog wr.drew = .ok (.slice (some ⟨wr.heap.size, 0, none⟩) 0 m) w1 := hmk0
      have o1 : Own w1 wr.heap.size .u8 5 (.slice (some ⟨wr.heap.size, 0, none⟩) 0 m) [] := ho1
      have hb1 : Below wr.heap.size wr.drew w1 := (Own.nil wr.drew wr.heap.size .u8 5).grown hg1 (Nat.le_refl _)
      have hbk : Blk w1 w.heap.size 111 #[.slice none 0 0, .slice none 0 0, .int .i64 m, .bool false] := hb.drew.below hb1 hgl
      have hlt : wr.heap.size < w1.heap.size := o1.lt0
      have a2 := hb.drew.cell 2
      have b0 := hbk.cell 0
      have fz := hbk.free 0
      simp only [List.getElem?_toArray, List.getElem?_cons_zero, List.getElem?_cons_succ] at a2 b0
      have HF := Lib.hid hbk
      have HB := Lib.hid ((below_drawn hbl).trans (hb1.mono hgs))
      have HO := Lib.hid o1
      have HLT := Lib.hid hlt
      have HGL := Lib.hid hgl
      have HGS := Lib.hid hgs
      
      
      
      clear hmk0 ho1 hg1 o1 hb1 hbk hb hM hbl hlt hgl hgs hi0 hz0 hz1 hz2
      generalize wr.heap.size = h at *
      go_wp2_with fail
      go_region
      go_wp2_with fail
      go_roundw
      case rel => exact ⟨1, by omega, by rfl, ⟨h, HF.out.put 0 _, (HO.out.on1 (Below.heap_setCell w1 _ _ h (by have := HGS.out; have := HGL.out; simp; omega))).base0 HGS.out, by have := HGL.out; omega, by simpa using HLT.out⟩, HB.out.setCell (Nat.le_refl _) _⟩
      case measure => simp [intOf]
    · obtain ⟨p, hb0, ow, hpg, hps⟩ := hM
      have hb : Blk wr w.heap.size 111 #[.slice (some ⟨p, 0, none⟩) 0 m, .slice none 0 0, .int .i64 m, .bool false] := hb0
      clear hb0
      have hgl := hb.lt
      obtain ⟨w1, hmk0, ho1, hg1⟩ := run_make_own (P := Try.prog) wr.drew wr.heap.size 22 5 i0 (.int .u8 0) 1 Try.underlying22 hi0 hz0 hz1 .i64 .i64 m (by rw [hz2]; omega) (by unfold maxLen; omega) (Nat.le_refl _)
      have hmk : (Instr.makeSlice 22 (.int .i64 0) (.int .i64 m)).run Try.prog wr.drew = .ok (.slice (some ⟨wr.heap.size, 0, none⟩) 0 m) w1 := hmk0
      have o1 : Own w1 wr.heap.size .u8 5 (.slice (some ⟨wr.heap.size, 0, none⟩) 0 m) [] := ho1
      have hb1 : Below wr.heap.size wr.drew w1 := (Own.nil wr.drew wr.heap.size .u8 5).grown hg1 (Nat.le_refl _)
      have hbk : Blk w1 w.heap.size 111 #[.slice (some ⟨p, 0, none⟩) 0 m, .slice none 0 0, .int .i64 m, .bool false] := hb.drew.below hb1 hgl
      have hlt : wr.heap.size < w1.heap.size := o1.lt0
      have a2 := hb.drew.cell 2
      have b1 := hbk.cell 1
      have fz := hbk.free 1
      simp only [List.getElem?_toArray, List.getElem?_cons_zero, List.getElem?_cons_succ] at a2 b1
      have HF := Lib.hid hbk
      have HB := Lib.hid ((below_drawn hbl).trans (hb1.mono hgs))
      have HO := Lib.hid o1
      have HLT := Lib.hid hlt
      have HGL := Lib.hid hgl
      have HGS := Lib.hid hgs
      have HOW := Lib.hid (ow.drew.below (hb1.mono (Nat.le_refl _)))
      have HPG := Lib.hid hpg
      have HPS := Lib.hid hps
      clear hmk0 ho1 hg1 o1 hb1 hbk hb ow hpg hps hbl hlt hgl hgs hi0 hz0 hz1 hz2
      generalize wr.heap.size = h at *
      go_wp2_with fail
      go_region
      go_wp2_with fail
      go_roundw
      case rel => exact ⟨2, by omega, by rfl, ⟨p, h, HOW.out.ge, HGS.out, ⟨HF.out.put 1 _, by have := HPS.out; omega, HPG.out, by have := HGL.out; omega, (HOW.out.on1 (Below.heap_setCell w1 _ _ p HPG.out)).base0 (Nat.zero_le _), (HO.out.on1 (Below.heap_setCell w1 _ _ h (by have := HGL.out; simp; omega))).base0 (Nat.zero_le _), by have := HPS.out; have := HLT.out; simp; omega, by simpa using HLT.out, Nat.zero_le _, Nat.zero_le _, by omega⟩⟩, HB.out.setCell (Nat.le_refl _) _⟩
      case measure => simp [intOf]
    · obtain ⟨p, q, h1, h2, h3⟩ := hM
      have H1 := Lib.hid h3
      have H2 := Lib.hid hbl
      clear h3 hbl hi0 hz0 hz1 hz2
      go_wp2_with fail
      go_ret
      exact ⟨w.heap.size, p, q, rfl, Nat.le_refl _, h1, h2, H1.out, H2.out⟩
end Go.Proofs.Ytchhbcmkhbfpoaa

/- Package order: Reset, Byte, End. -/
namespace Go.Proofs.Ytchhbcmkhbfpoaa
open Go.RowKit

section
variable {g p q m : Nat} {w w' : World} {a b : List Int} {e : Bool}
/-- What a key's bytes come to. -/
theorem Ks.set (h : Ks w g p q m a b e) (ho : Only g w w') {p' q' : Nat} {a' b' : List Int} {e' : Bool} (hb : Blk w' g 111 #[.slice (some ⟨p', 0, none⟩) a'.length m, .slice (some ⟨q', 0, none⟩) b'.length m, .int .i64 m, .bool e'])
    (hq : (p' = p ∧ q' = q ∧ a' = a ∧ (b' = b ∨ b' = [])) ∨ (p' = q ∧ q' = p ∧ a' = b ∧ b' = [])) : Ks w' g p' q' m a' b' e' := by
  have hp : w'.heap[p]? = w.heap[p]? := ho.block _ h.lp (fun e => h.pg (by injection e))
  have hq' : w'.heap[q]? = w.heap[q]? := ho.block _ h.lq (fun e => h.qg (by injection e))
  have hs := ho.size
  have lp := h.lp
  have lq := h.lq
  rcases hq with ⟨rfl, rfl, rfl, rfl | rfl⟩ | ⟨rfl, rfl, rfl, rfl⟩
  · exact ⟨hb, h.pq, h.pg, h.qg, h.ow1.on1 hp, h.ow2.on1 hq', by omega, by omega, h.le1, h.le2, h.lem⟩
  · exact ⟨hb, h.pq, h.pg, h.qg, h.ow1.on1 hp, (h.ow2.on1 hq').zero, by omega, by omega, h.le1, Nat.zero_le _, h.lem⟩
  · exact ⟨hb, fun e => h.pq e.symm, h.qg, h.pg, h.ow2.on1 hq', (h.ow1.on1 hp).zero, by omega, by omega, h.le2, Nat.zero_le _, h.lem⟩
end

set_option maxRecDepth 100000 in
theorem order_Reset (w : World) (g p q m : Nat) (a b : List Int) (e : Bool) (h : Ks w g p q m a b e) :
    Calls Try.prog 82 #[.pointer (some ⟨g, 0, none⟩)] w fun r w' => r = .returned (.tuple #[]) ∧ Ks w' g p q m a [] false ∧ Tri g p q w w' := by
  have H := Lib.hid h
  have hb3 := h.blk.put 3 (.bool false)
  have ho := ((Only.refl g w).put 3 (.bool false))
  obtain ⟨c0, c1, c2, c3, hf⟩ := h.cells
  have hf3 := hf 3
  have e1 := hb3.cell 1
  have e2 := hb3.free 1
  have H1 := Lib.hid hb3
  have HO := Lib.hid ho
  simp at e1
  clear h hf hb3 ho c0 c2 c1
  go_enter Try.func82, Try.ntmps82
  go_wp2_with fail
  generalize w.setCell ⟨g, 3, none⟩ (.bool false) = w1 at *
  go_region
  go_wp2_with fail
  go_end0
  exact ⟨rfl, H.out.set ((HO.out.drew).put 1 _) (H1.out.drew.put 1 _) (.inl ⟨rfl, rfl, rfl, .inr rfl⟩), .ofG ((HO.out.drew).put 1 _)⟩

set_option maxRecDepth 100000 in
theorem order_Byte_full (w : World) (g p q m : Nat) (a b : List Int) (e : Bool) (c : Int) (h : Ks w g p q m a b e) (hl : b.length = m) :
    Calls Try.prog 59 #[.pointer (some ⟨g, 0, none⟩), .int .u8 c] w fun r w' => r = .returned (.bool false) ∧ Ks w' g p q m a b e ∧ Tri g p q w w' := by
  have H := Lib.hid h
  obtain ⟨c0, c1, c2, c3, hf⟩ := h.cells
  rw [hl] at c1
  clear h hf c0 c3
  go_enter Try.func59, Try.ntmps59
  go_wp2_with fail
  go_quiet (fail)
  go_wp2_with fail
  go_ret
  exact ⟨rfl, H.out.on (below_drawnN (Below.refl _ _) _), .ofBelow (below_drawnN (Below.refl _ _) _)⟩

set_option maxRecDepth 100000 in
theorem order_Byte (w : World) (g p q m : Nat) (a b : List Int) (e : Bool) (c : Int) (h : Ks w g p q m a b e) (hl : b.length < m) :
    Calls Try.prog 59 #[.pointer (some ⟨g, 0, none⟩), .int .u8 c] w fun r w' => r = .returned (.bool true) ∧ Ks w' g p q m a (b ++ [c]) e ∧ Tri g p q w w' := by
  have H := Lib.hid h
  obtain ⟨c0, c1, c2, c3, hf⟩ := h.cells
  have hlt : ¬ (m : Int) ≤ (b.length : Int) := by omega
  obtain ⟨i0, hi0, hz0, hz1, hz2⟩ := info_parts info5
  clear h hf c0 c3
  go_enter Try.func59, Try.ntmps59
  go_wp2_with fail
  go_quiet (fail)
  go_wp2_with fail
  have hB : Below w.heap.size w (w.drewN nq).drew := below_drawn (below_drawnN (Below.refl _ _) _)
  have hk := H.out.on hB
  have HT0 := Lib.hid (Tri.ofBelow (g := g) (p := p) (q := q) hB)
  clear hB c1 c2 H
  have bq : Blk (((w.drewN nq).drew).alloc (.cells #[.int .u8 c] 5)) (w.drewN nq).heap.size 5 (nums .u8 [c]) := Blk.fresh _ _ _
  have hA : Below (w.drewN nq).heap.size (w.drewN nq).drew (((w.drewN nq).drew).alloc (.cells #[.int .u8 c] 5)) := below_alloc (w.drewN nq).drew _
  have hkq := hk.on hA
  have HT1 := Lib.hid (HT0.out.trans (Tri.ofBelow hA))
  clear hA HT0
  obtain ⟨wq, hwq⟩ : ∃ wq, ((w.drewN nq).drew).alloc (.cells #[.int .u8 c] 5) = wq := ⟨_, rfl⟩
  rw [hwq] at bq hkq HT1
  obtain ⟨w3, hr, ho, hg⟩ := run_append_fits (P := Try.prog) wq 0 22 22 5 i0 1 Try.underlying22 hi0 hz1 q b.length m (b.map (Value.int .u8)) hkq.ow2 ⟨(w.drewN nq).heap.size, 0, none⟩ 1 1 [.int .u8 c] rfl (fun j u hj => by
    cases j with
    | zero => injection hj with hj; subst hj; exact bq.cell 0
    | succ j => cases hj) (by simp [Value.oneCell']) (by omega)
  have HG3 := Lib.hid (show Only q wq w3 from hg)
  have HO3 : Hid (Own w3 0 .u8 5 (.slice (some ⟨q, 0, none⟩) (b ++ [c]).length m) (b ++ [c])) := by
    show Own _ _ _ _ _ _
    unfold Own
    rw [List.length_append, List.map_append]
    exact ho
  have hb3 : Blk w3 g 111 #[.slice (some ⟨p, 0, none⟩) a.length m, .slice (some ⟨q, 0, none⟩) b.length m, .int .i64 m, .bool e] := hkq.blk.only HG3.out (fun e => hkq.qg e.symm)
  have c1 := hk.blk.cell 1
  have cq := hkq.blk.cell 1
  have c3 := hb3.cell 1
  have f3 := hb3.free 1
  simp only [List.getElem?_toArray, List.getElem?_cons_zero, List.getElem?_cons_succ] at c1 c3 cq
  have HR := Lib.hid hr
  have HB3 := Lib.hid hb3
  have HK := Lib.hid hkq
  have HL := Lib.hid hl
  clear hr ho hg hb3 hkq hk bq hi0 hz0 hz1 hz2 hlt hl
  generalize (w.drewN nq) = wn at *
  go_region_law (refine step_append_run rfl rfl HR.out rfl rfl ?_)
  all_goals
    go_wp2_with fail
    go_ret
    refine ⟨rfl, ?_, ?_⟩
    · have h4 := HK.out
      have n1 : g ≠ q := fun e => h4.qg e.symm
      refine ⟨by rw [List.length_append]; exact HB3.out.put 1 _, h4.pq, h4.pg, h4.qg, (h4.ow1.on1 (HG3.out.block _ h4.lp (fun e => h4.pq (by injection e)))).on1 (Below.heap_setCell w3 _ _ p h4.pg), HO3.out.on1 (Below.heap_setCell w3 _ _ q h4.qg), ?_, ?_, h4.le1, by have := HL.out; simp; omega, h4.lem⟩
      · have := h4.lp; have := HG3.out.size; simp; omega
      · have := h4.lq; have := HG3.out.size; simp; omega
    · exact HT1.out.trans ((Tri.ofQ HG3.out).trans (.ofG ((Only.refl g w3).put 1 _)))

set_option maxRecDepth 100000 in
/-- The second half of End: the lists change places. -/
theorem order_End (w : World) (g p q m : Nat) (a b : List Int) (e : Bool) (h : Ks w g p q m a b e) (ha : ByteL a) (hb : ByteL b) :
    Calls Try.prog 89 #[.pointer (some ⟨g, 0, none⟩)] w fun r w' => r = .returned (.bool (!e || ahead a b)) ∧ Ks w' g q p m b [] true ∧ Tri g p q w w' := by
  have HA := Lib.hid (fun n => order_Ahead (w.drewN n) _ _ m m a b (h.on (below_drawnN (Below.refl _ _) n)).rd1 (h.on (below_drawnN (Below.refl _ _) n)).rd2 ha hb)
  have H := Lib.hid h
  obtain ⟨c0, c1, c2, c3, hf⟩ := h.cells
  have hf3 := hf 3
  generalize ahead a b = z at *
  clear h hf ha hb
  cases e
  · go_enter Try.func89, Try.ntmps89
    go_wp2_with fail
    go_quiet (fail)
    go_wp2_with fail
    have hb3 := H.out.blk.put 3 (.bool true)
    have hB : Below w.heap.size w (w.drewN nq) := below_drawnN (Below.refl _ _) _
    have hk := H.out.on hB
    have HT := Lib.hid (Tri.ofBelow (g := g) (p := p) (q := q) hB)
    clear hB c0 c1 c2 c3 hf3 hb3 H
    generalize w.drewN nq = wn at *
    have hb3 := hk.blk.put 3 (.bool true)
    have ho := (Only.refl g wn).put 3 (.bool true)
    have HK := Lib.hid hk
    generalize wn.setCell ⟨g, 3, none⟩ (.bool true) = w1 at *
    have e0 := hb3.cell 0
    have e1 := hb3.cell 1
    have f0 := hb3.free 0
    have f1 := hb3.free 1
    simp only [List.getElem?_toArray, List.getElem?_cons_zero, List.getElem?_cons_succ, List.setIfInBounds_toArray, List.set_cons_succ, List.set_cons_zero] at e0 e1
    have H3 := Lib.hid hb3
    have HO := Lib.hid ho
    clear hb3 ho hk
    go_region
    all_goals
      go_wp2_with fail
      go_ret
      exact ⟨rfl, HK.out.set (((HO.out.put 0 _).put 1 _).drew) (((H3.out.put 0 _).put 1 _).drew) (.inr ⟨rfl, rfl, rfl, rfl⟩), HT.out.trans (.ofG ((HO.out.put 0 _).put 1 _).drew)⟩
  · go_enter Try.func89, Try.ntmps89
    go_wp2_with fail
    go_quiet ((with_reducible exact Calls.quiet_of_same (HA.out _)))
    go_wp2_with fail
    have hb3 := H.out.blk.put 3 (.bool true)
    have hB : Below w.heap.size w (w.drewN nq) := below_drawnN (Below.refl _ _) _
    have hk := H.out.on hB
    have HT := Lib.hid (Tri.ofBelow (g := g) (p := p) (q := q) hB)
    clear hB c0 c1 c2 c3 hf3 hb3 H
    generalize w.drewN nq = wn at *
    have hb3 := hk.blk.put 3 (.bool true)
    have ho := (Only.refl g wn).put 3 (.bool true)
    have HK := Lib.hid hk
    generalize wn.setCell ⟨g, 3, none⟩ (.bool true) = w1 at *
    have e0 := hb3.cell 0
    have e1 := hb3.cell 1
    have f0 := hb3.free 0
    have f1 := hb3.free 1
    simp only [List.getElem?_toArray, List.getElem?_cons_zero, List.getElem?_cons_succ, List.setIfInBounds_toArray, List.set_cons_succ, List.set_cons_zero] at e0 e1
    have H3 := Lib.hid hb3
    have HO := Lib.hid ho
    clear hb3 ho hk
    go_region
    all_goals
      go_wp2_with fail
      go_ret
      exact ⟨rfl, HK.out.set (((HO.out.put 0 _).put 1 _).drew) (((H3.out.put 0 _).put 1 _).drew) (.inr ⟨rfl, rfl, rfl, rfl⟩), HT.out.trans (.ofG ((HO.out.put 0 _).put 1 _).drew)⟩
end Go.Proofs.Ytchhbcmkhbfpoaa

/- Package frame: a stack in memory. -/
namespace Go.Proofs.Ytchhbcmkhbfpoaa
open Go.RowKit

/-- Of the blocks that were there only those of a set have turned. -/
structure Wi (S : Nat → Prop) (w w' : World) : Prop where
  os : w'.os = w.os
  tape : w'.tape = w.tape
  output : w'.output = w.output
  size : w.heap.size ≤ w'.heap.size
  block : ∀ i, i < w.heap.size → ¬ S i → w'.heap[i]? = w.heap[i]?
section
variable {S S' : Nat → Prop} {w w' w'' : World} {B : Nat}
theorem Wi.refl : Wi S w w := ⟨rfl, rfl, rfl, Nat.le_refl _, fun _ _ _ => rfl⟩
theorem Wi.trans (h : Wi S w w') (k : Wi S w' w'') : Wi S w w'' :=
  ⟨k.os.trans h.os, k.tape.trans h.tape, k.output.trans h.output, Nat.le_trans h.size k.size, fun i hi a => (k.block i (Nat.lt_of_lt_of_le hi h.size) a).trans (h.block i hi a)⟩
theorem Wi.mono (h : Wi S w w') (hs : ∀ i, S i → S' i) : Wi S' w w' := ⟨h.os, h.tape, h.output, h.size, fun i hi a => h.block i hi (fun s => a (hs i s))⟩
theorem Wi.ofBelow (h : Below w.heap.size w w') : Wi S w w' := ⟨h.os, h.tape, h.output, h.size, fun i hi _ => h.block i hi⟩
theorem Wi.ofOnly {g : Nat} (h : Only g w w') (hg : S g) : Wi S w w' := ⟨h.os, h.tape, h.output, h.size, fun i hi a => h.block i hi (fun e => a (by injection e with e; exact e ▸ hg))⟩
theorem Wi.ofTri {g p q : Nat} (h : Tri g p q w w') (hg : S g) (hp : S p) (hq : S q) : Wi S w w' :=
  ⟨h.os, h.tape, h.output, h.size, fun i hi a => h.block i hi (fun e => a (e ▸ hg)) (fun e => a (e ▸ hp)) (fun e => a (e ▸ hq))⟩
theorem Wi.below (h : Wi S w w') (hs : ∀ i, S i → B ≤ i) (hB : B ≤ w.heap.size) : Below B w w' := ⟨h.os, h.tape, h.output, h.size, fun i hi => h.block i (by omega) (fun s => by have := hs i s; omega)⟩
theorem Wi.blk {j : Nat} {t : TypeId} {cs : Array Value} (h : Wi S w w') (hb : Blk w j t cs) (hj : ¬ S j) : Blk w' j t cs := (h.block j hb.lt hj).trans hb
theorem Wi.drewN (h : Wi S w w') (n : Nat) : Wi S w (w'.drewN n) := ⟨h.os, h.tape, h.output, h.size, h.block⟩
theorem Wi.drew (h : Wi S w w') : Wi S w w'.drew := ⟨h.os, h.tape, h.output, h.size, h.block⟩
end

/-- A key's memory: its blocks, the last key, the next one, is there a last one. -/
structure KV where
  g : Nat
  p : Nat
  q : Nat
  a : List Int
  b : List Int
  e : Bool
/-- A frame's place. -/
structure FC where
  kind : Int
  left : Int
  keyed : Bool
  k : KV
def FC.cells (x : FC) : List Value := [.pointer (some ⟨x.k.g, 0, none⟩), .int .i64 x.kind, .int .u64 x.left, .bool x.keyed]
def frcells : List FC → List Value
  | [] => []
  | x :: r => x.cells ++ frcells r
theorem length_frcells (l : List FC) : (frcells l).length = l.length * 4 := by
  induction l with
  | nil => rfl
  | cons x r ih => simp [frcells, FC.cells, ih]; omega
theorem frcells_get {l : List FC} {i j : Nat} {x : FC} (h : l[i]? = some x) (hj : j < 4) : (frcells l)[i * 4 + j]? = x.cells[j]? := by
  induction l generalizing i with
  | nil => cases h
  | cons y r ih =>
    unfold frcells
    cases i with
    | zero =>
      simp only [List.getElem?_cons_zero, Option.some.injEq] at h
      subst h
      rw [Nat.zero_mul, Nat.zero_add, List.getElem?_append_left (by simpa [FC.cells] using hj)]
    | succ i =>
      rw [List.getElem?_append_right (by simp [FC.cells]; omega), show (i + 1) * 4 + j - y.cells.length = i * 4 + j by simp [FC.cells]; omega]
      exact ih (by simpa using h)
theorem frcells_put {l : List FC} {i j : Nat} {x x' : FC} {v : Value} (h : l[i]? = some x) (hj : j < 4) (hx : x'.cells = x.cells.set j v) : frcells (l.set i x') = (frcells l).set (i * 4 + j) v := by
  induction l generalizing i with
  | nil => cases h
  | cons y r ih =>
    cases i with
    | zero =>
      simp only [List.getElem?_cons_zero, Option.some.injEq] at h
      subst h
      rw [List.set_cons_zero, Nat.zero_mul, Nat.zero_add]
      unfold frcells
      rw [hx, List.set_append, if_pos (by simpa [FC.cells] using hj)]
    | succ i =>
      rw [List.set_cons_succ]
      unfold frcells
      rw [List.set_append, if_neg (by simp [FC.cells]; omega), show (i + 1) * 4 + j - y.cells.length = i * 4 + j by simp [FC.cells]; omega, ih (by simpa using h)]
theorem set_self {α : Type} {l : List α} {i : Nat} {x : α} (h : l[i]? = some x) : l.set i x = l := by
  apply List.ext_getElem?
  intro j
  rw [List.getElem?_set]
  split
  · next e => subst e; split
              · exact h.symm
              · next hl => rw [List.getElem?_eq_none (by omega)] at h; cases h
  · rfl
theorem frcells_same {l : List FC} {i : Nat} {x x' : FC} (h : l[i]? = some x) (hx : x'.cells = x.cells) : frcells (l.set i x') = frcells l := by
  have := frcells_put (j := 1) (x' := x') (v := .int .i64 x.kind) h (by decide) (by rw [hx]; rfl)
  rw [this]
  exact set_self (frcells_get h (by decide))

/-- A stack in block s, its frames in block f, n of them open; own tells whose a block is: 1 the stack's, 2 the frames', i + 3 frame i's. -/
structure Stk (w : World) (own : Nat → Nat) (s f K : Nat) (fs : List FC) (n : Nat) : Prop where
  sblk : Blk w s 93 #[.slice (some ⟨f, 0, none⟩) fs.length fs.length, .int .i64 n]
  fblk : Blk w f 97 (frcells fs).toArray
  os : own s = 1
  of : own f = 2
  ks : ∀ (i : Nat) (x : FC), fs[i]? = some x → Ks w x.k.g x.k.p x.k.q K x.k.a x.k.b x.k.e ∧ own x.k.g = i + 3 ∧ own x.k.p = i + 3 ∧ own x.k.q = i + 3 ∧ ByteL x.k.a ∧ ByteL x.k.b
  hn : n ≤ fs.length
  hl : fs.length ≤ 64
section
variable {w w' : World} {own : Nat → Nat} {s f K : Nat} {fs : List FC} {n : Nat}
theorem Stk.keep (h : Stk w own s f K fs n) (hs : w.heap.size ≤ w'.heap.size) (hb : ∀ i, i < w.heap.size → own i ≠ 0 → w'.heap[i]? = w.heap[i]?) : Stk w' own s f K fs n := by
  have ne : ∀ {a b : Nat}, a = b + 1 → a ≠ 0 := fun h => by omega
  refine ⟨(hb s h.sblk.lt (ne h.os)).trans h.sblk, (hb f h.fblk.lt (ne h.of)).trans h.fblk, h.os, h.of, fun i x hx => ?_, h.hn, h.hl⟩
  obtain ⟨k1, k2, k3, k4, k5⟩ := h.ks i x hx
  exact ⟨k1.keep hs (hb _ k1.blk.lt (ne k2)) (hb _ k1.lp (ne k3)) (hb _ k1.lq (ne k4)), k2, k3, k4, k5⟩
theorem Stk.on (h : Stk w own s f K fs n) (hb : Below w.heap.size w w') : Stk w' own s f K fs n := h.keep hb.size fun i hi _ => hb.block i hi
theorem Stk.wi {S : Nat → Prop} (h : Stk w own s f K fs n) (hb : Wi S w w') (hS : ∀ i, S i → own i = 0) : Stk w' own s f K fs n := h.keep hb.size fun i hi ho => hb.block i hi fun hs => ho (hS i hs)
theorem Stk.drewN (h : Stk w own s f K fs n) (k : Nat) : Stk (w.drewN k) own s f K fs n := h.on (below_drawnN (Below.refl _ _) k)
theorem Stk.only {j : Nat} (h : Stk w own s f K fs n) (ho : Only j w w') (hj : own j = 0) : Stk w' own s f K fs n := h.keep ho.size fun i hi hi0 => ho.block i hi (fun e => by injection e with e; subst e; exact hi0 hj)
/-- Another frame's keys are left alone. -/
theorem Stk.setK (h : Stk w own s f K fs n) {i : Nat} {x : FC} (hx : fs[i]? = some x) (ht : Tri x.k.g x.k.p x.k.q w w') {k' : KV} (hg : k'.g = x.k.g) (hp : own k'.p = i + 3) (hq : own k'.q = i + 3) (hk : Ks w' k'.g k'.p k'.q K k'.a k'.b k'.e) (ha : ByteL k'.a) (hb : ByteL k'.b) :
    Stk w' own s f K (fs.set i { x with k := k' }) n := by
  obtain ⟨k1, k2, k3, k4, _⟩ := h.ks i x hx
  have far : ∀ j, own j ≠ i + 3 → j ≠ x.k.g ∧ j ≠ x.k.p ∧ j ≠ x.k.q := fun j hj => ⟨fun e => hj (e ▸ k2), fun e => hj (e ▸ k3), fun e => hj (e ▸ k4)⟩
  have blk : ∀ j, j < w.heap.size → own j ≠ i + 3 → w'.heap[j]? = w.heap[j]? := fun j hj ho => ht.block j hj (far j ho).1 (far j ho).2.1 (far j ho).2.2
  have hl : (fs.set i { x with k := k' }).length = fs.length := List.length_set
  refine ⟨by rw [hl]; exact (blk s h.sblk.lt (by have := h.os; omega)).trans h.sblk, ?_, h.os, h.of, fun j y hy => ?_, by rw [hl]; exact h.hn, by rw [hl]; exact h.hl⟩
  · rw [frcells_same hx (by simp only [FC.cells, hg])]
    exact (blk f h.fblk.lt (by have := h.of; omega)).trans h.fblk
  · by_cases hji : j = i
    · subst hji
      rw [List.getElem?_set_self (by
        rcases Nat.lt_or_ge j fs.length with h' | h'
        · exact h'
        · rw [List.getElem?_eq_none h'] at hx; cases hx)] at hy
      injection hy with hy
      subst hy
      exact ⟨hk, by dsimp only; rw [hg]; exact k2, hp, hq, ha, hb⟩
    · rw [List.getElem?_set_ne (Ne.symm hji)] at hy
      obtain ⟨l1, l2, l3, l4, l5⟩ := h.ks j y hy
      exact ⟨l1.keep ht.size (blk _ l1.blk.lt (by omega)) (blk _ l1.lp (by omega)) (blk _ l1.lq (by omega)), l2, l3, l4, l5⟩
theorem lt_of_get {α : Type} {l : List α} {i : Nat} {x : α} (h : l[i]? = some x) : i < l.length := by
  rcases Nat.lt_or_ge i l.length with h' | h'
  · exact h'
  · rw [List.getElem?_eq_none h'] at h; cases h
theorem get_set {α : Type} {l : List α} {i j : Nat} {x x' y : α} (hx : l[i]? = some x) (hy : (l.set i x')[j]? = some y) : (j = i ∧ y = x') ∨ (j ≠ i ∧ l[j]? = some y) := by
  by_cases e : j = i
  · subst e
    rw [List.getElem?_set_self (lt_of_get hx)] at hy
    injection hy with hy
    exact .inl ⟨rfl, hy.symm⟩
  · rw [List.getElem?_set_ne (Ne.symm e)] at hy
    exact .inr ⟨e, hy⟩
/-- A frame's own cell is stored. -/
theorem Stk.setF (h : Stk w own s f K fs n) {i j : Nat} {x x' : FC} {v : Value} (hx : fs[i]? = some x) (hj : j < 4) (hc : x'.cells = x.cells.set j v) (hk : x'.k = x.k) :
    Stk (w.setCell ⟨f, i * 4 + j, none⟩ v) own s f K (fs.set i x') n := by
  have hl : (fs.set i x').length = fs.length := List.length_set
  have blk : ∀ j', own j' ≠ 2 → (w.setCell ⟨f, i * 4 + j, none⟩ v).heap[j']? = w.heap[j']? := fun j' hj' => Below.heap_setCell w _ v j' (fun e => hj' (by rw [e]; exact h.of))
  refine ⟨by rw [hl]; exact (blk s (by have := h.os; omega)).trans h.sblk, ?_, h.os, h.of, fun j' y hy => ?_, by rw [hl]; exact h.hn, by rw [hl]; exact h.hl⟩
  · have := h.fblk.put (i * 4 + j) v
    rw [frcells_put hx hj hc]
    simpa using this
  · have : ∃ y', fs[j']? = some y' ∧ y'.k = y.k := by
      rcases get_set hx hy with ⟨rfl, rfl⟩ | ⟨_, h'⟩
      · exact ⟨x, hx, hk.symm⟩
      · exact ⟨y, h', rfl⟩
    obtain ⟨y', hy', e⟩ := this
    obtain ⟨l1, l2, l3, l4, l5⟩ := h.ks j' y' hy'
    rw [e] at l1 l2 l3 l4 l5
    exact ⟨l1.keep (by simp [World.setCell]) (blk _ (by omega)) (blk _ (by omega)) (blk _ (by omega)), l2, l3, l4, l5⟩
/-- How many are open is stored. -/
theorem Stk.setN (h : Stk w own s f K fs n) {m : Nat} {v : Int} (hv : v = m) (hm : m ≤ fs.length) : Stk (w.setCell ⟨s, 1, none⟩ (.int .i64 v)) own s f K fs m := by
  subst hv
  have blk : ∀ j', own j' ≠ 1 → (w.setCell ⟨s, 1, none⟩ (.int .i64 m)).heap[j']? = w.heap[j']? := fun j' hj' => Below.heap_setCell w _ _ j' (fun e => hj' (by rw [e]; exact h.os))
  refine ⟨h.sblk.put 1 _, (blk f (by have := h.of; omega)).trans h.fblk, h.os, h.of, fun i x hx => ?_, hm, h.hl⟩
  obtain ⟨l1, l2, l3, l4, l5⟩ := h.ks i x hx
  exact ⟨l1.keep (by simp [World.setCell]) (blk _ (by omega)) (blk _ (by omega)) (blk _ (by omega)), l2, l3, l4, l5⟩
theorem Stk.cells (h : Stk w own s f K fs n) : w.cell? ⟨s, 0, none⟩ = some (.slice (some ⟨f, 0, none⟩) fs.length fs.length) ∧ w.cell? ⟨s, 1, none⟩ = some (.int .i64 n) ∧ ∀ i, w.frozen? ⟨s, i, none⟩ = false := ⟨h.sblk.cell 0, h.sblk.cell 1, h.sblk.free⟩
theorem Stk.fcell (h : Stk w own s f K fs n) {i : Nat} {x : FC} (hx : fs[i]? = some x) : w.cell? ⟨f, i * 4, none⟩ = some (.pointer (some ⟨x.k.g, 0, none⟩)) ∧ w.cell? ⟨f, i * 4 + 1, none⟩ = some (.int .i64 x.kind) ∧ w.cell? ⟨f, i * 4 + 2, none⟩ = some (.int .u64 x.left) ∧ w.cell? ⟨f, i * 4 + 3, none⟩ = some (.bool x.keyed) ∧ ∀ i, w.frozen? ⟨f, i, none⟩ = false := by
  have g : ∀ j, j < 4 → w.cell? ⟨f, i * 4 + j, none⟩ = x.cells[j]? := fun j hj => by rw [h.fblk.cell, List.getElem?_toArray, frcells_get hx hj]
  exact ⟨g 0 (by decide), g 1 (by decide), g 2 (by decide), g 3 (by decide), h.fblk.free⟩
end
/-- &frames[i]. -/
theorem run_frame (w : World) (f n c : Nat) (k : Nat) (x : Int) (hx : x = k) (hk : k < n) : (Instr.indexAt 91 (.slice (some ⟨f, 0, none⟩) n c) (.int .i64 x)).run Try.prog w = .ok (.pointer (some ⟨f, k * 4, none⟩)) w := by
  subst hx
  have hs : (sizeOf 97).run Try.prog w = .ok 4 w := size_run (by kernel_rfl) w
  rw [run_indexAt_slice (P := Try.prog) (w := w) 91 ⟨f, 0, none⟩ n c .i64 k (by kernel_rfl), if_pos (by omega)]
  have he : Try.prog.elem 91 = 97 := by kernel_rfl
  rw [he, hs]
  simp [Addr.add]
  exact fun h => h.symm
end Go.Proofs.Ytchhbcmkhbfpoaa
