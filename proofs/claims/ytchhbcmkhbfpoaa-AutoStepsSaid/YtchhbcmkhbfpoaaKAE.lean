/- Package order: New, Byte, End, Reset. -/
import Derived.Test.YtchhbcmkhbfpoaaKAD
import Derived.Deep.LoopGhost
import Derived.Deep.RegionLaw
import Derived.Test.YtchhbcmkhbfpoaaKAB
import Derived.Maps.AppendAt
namespace Go.Proofs.Ytchhbcmkhbfpoaa
open Go.RowKit

/-- A Keys that is being made: the first k lists have their memory. -/
def Mk (w : World) (B g m : Nat) : Nat → Prop
  | 0 => Blk w g 111 #[.slice none 0 0, .slice none 0 0, .int .i64 m, .bool false]
  | 1 => ∃ p, Blk w g 111 #[.slice (some ⟨p, 0, none⟩) 0 m, .slice none 0 0, .int .i64 m, .bool false] ∧ Own w B .u8 5 (.slice (some ⟨p, 0, none⟩) 0 m) [] ∧ p ≠ g ∧ p < w.heap.size
  | _ => ∃ p q, B ≤ p ∧ B ≤ q ∧ Ks w g p q m [] [] false
theorem Own.base0 {w B B' k t v zs} (h : Own w B k t v zs) (hb : B' ≤ B) : Own w B' k t v zs := by
  obtain ⟨h1, h2⟩ := h
  refine ⟨h1, ?_⟩
  rcases h2 with h2 | ⟨g, cap, cur, hv, hg, r⟩
  · exact .inl h2
  · exact .inr ⟨g, cap, cur, hv, by omega, r⟩

set_option maxRecDepth 100000 in
theorem order_New (w : World) (x : Int) (m : Nat) (hm : min (max x 0) 1024 = m) :
    Calls Try.prog 34 #[.int .i64 x] w fun e w' => ∃ g p q, e = .returned (.pointer (some ⟨g, 0, none⟩)) ∧ w.heap.size ≤ g ∧ w.heap.size ≤ p ∧ w.heap.size ≤ q ∧ Ks w' g p q m [] [] false ∧ Below w.heap.size w w' := by
  have hm' : m ≤ 1024 := by omega
  obtain ⟨hx, hm0⟩ | ⟨hx, hm0⟩ | ⟨hx, hx', hm0⟩ : (x < 0 ∧ m = 0) ∨ (1024 < x ∧ m = 1024) ∨ (0 ≤ x ∧ x ≤ 1024 ∧ x = m) := by omega
  all_goals subst hm0
  all_goals clear hm hm'
  all_goals go_enter Try.func34, Try.ntmps34
  all_goals go_wp2_with fail
  · obtain ⟨i0, hi0, hz0, hz1, hz2⟩ := info_parts info5
    go_loopw [10] (fun i wr => ∃ k : Nat, k ≤ 2 ∧ i = .int .i64 k ∧ Mk wr w.heap.size w.heap.size 0 k ∧ Below w.heap.size w wr) (fun i _ => 2 - (intOf i).toNat)
    case atStart => exact ⟨0, by omega, rfl, Blk.fresh _ _ _, below_alloc _ _⟩
    case round =>
    obtain ⟨k, hk, rfl, hM, hbl⟩ := hrel
    have hgs := hbl.size
    obtain rfl | rfl | rfl : k = 0 ∨ k = 1 ∨ k = 2 := by omega
    · have hb : Blk wr w.heap.size 111 #[.slice none 0 0, .slice none 0 0, .int .i64 0, .bool false] := hM
      have hgl := hb.lt
      obtain ⟨w1, hmk0, ho1, hg1⟩ := run_make_own (P := Try.prog) wr.drew wr.heap.size 22 5 i0 (.int .u8 0) 1 Try.underlying22 hi0 hz0 hz1 .i64 .i64 0 (by rw [hz2]; omega) (by unfold maxLen; omega) (Nat.le_refl _)
      have hmk : (Instr.makeSlice 22 (.int .i64 0) (.int .i64 0)).run Try.prog wr.drew = .ok (.slice (some ⟨wr.heap.size, 0, none⟩) 0 0) w1 := hmk0
      have o1 : Own w1 wr.heap.size .u8 5 (.slice (some ⟨wr.heap.size, 0, none⟩) 0 0) [] := ho1
      have hb1 : Below wr.heap.size wr.drew w1 := (Own.nil wr.drew wr.heap.size .u8 5).grown hg1 (Nat.le_refl _)
      have hbk : Blk w1 w.heap.size 111 #[.slice none 0 0, .slice none 0 0, .int .i64 0, .bool false] := hb.drew.below hb1 hgl
      have hlt : wr.heap.size < w1.heap.size := o1.lt0
      have a2 := hb.drew.cell 2
      have b0 := hbk.cell 0
      have fz := hbk.free 0
      simp only [List.getElem?_toArray, List.getElem?_cons_zero, List.getElem?_cons_succ] at a2 b0
      have HF := Lib.hid hbk
      have HB := Lib.hid ((below_drawn hbl).trans (hb1.mono hgs))
      have HO := Lib.hid o1
      have HLT := Lib.hid hlt
      have HGL := Lib.hid hgl
      have HGS := Lib.hid hgs
      
      
      
      clear hmk0 ho1 hg1 o1 hb1 hbk hb hM hbl hlt hgl hgs hi0 hz0 hz1 hz2
      generalize wr.heap.size = h at *
      go_wp2_with fail
      go_region
      go_wp2_with fail
      go_roundw
      case rel => exact ⟨1, by omega, by rfl, ⟨h, HF.out.put 0 _, (HO.out.on1 (Below.heap_setCell w1 _ _ h (by have := HGS.out; have := HGL.out; simp; omega))).base0 HGS.out, by have := HGL.out; omega, by simpa using HLT.out⟩, HB.out.setCell (Nat.le_refl _) _⟩
      case measure => simp [intOf]
    · obtain ⟨p, hb0, ow, hpg, hps⟩ := hM
      have hb : Blk wr w.heap.size 111 #[.slice (some ⟨p, 0, none⟩) 0 0, .slice none 0 0, .int .i64 0, .bool false] := hb0
      clear hb0
      have hgl := hb.lt
      obtain ⟨w1, hmk0, ho1, hg1⟩ := run_make_own (P := Try.prog) wr.drew wr.heap.size 22 5 i0 (.int .u8 0) 1 Try.underlying22 hi0 hz0 hz1 .i64 .i64 0 (by rw [hz2]; omega) (by unfold maxLen; omega) (Nat.le_refl _)
      have hmk : (Instr.makeSlice 22 (.int .i64 0) (.int .i64 0)).run Try.prog wr.drew = .ok (.slice (some ⟨wr.heap.size, 0, none⟩) 0 0) w1 := hmk0
      have o1 : Own w1 wr.heap.size .u8 5 (.slice (some ⟨wr.heap.size, 0, none⟩) 0 0) [] := ho1
      have hb1 : Below wr.heap.size wr.drew w1 := (Own.nil wr.drew wr.heap.size .u8 5).grown hg1 (Nat.le_refl _)
      have hbk : Blk w1 w.heap.size 111 #[.slice (some ⟨p, 0, none⟩) 0 0, .slice none 0 0, .int .i64 0, .bool false] := hb.drew.below hb1 hgl
      have hlt : wr.heap.size < w1.heap.size := o1.lt0
      have a2 := hb.drew.cell 2
      have b1 := hbk.cell 1
      have fz := hbk.free 1
      simp only [List.getElem?_toArray, List.getElem?_cons_zero, List.getElem?_cons_succ] at a2 b1
      have HF := Lib.hid hbk
      have HB := Lib.hid ((below_drawn hbl).trans (hb1.mono hgs))
      have HO := Lib.hid o1
      have HLT := Lib.hid hlt
      have HGL := Lib.hid hgl
      have HGS := Lib.hid hgs
      have HOW := Lib.hid (ow.drew.below (hb1.mono (Nat.le_refl _)))
      have HPG := Lib.hid hpg
      have HPS := Lib.hid hps
      clear hmk0 ho1 hg1 o1 hb1 hbk hb ow hpg hps hbl hlt hgl hgs hi0 hz0 hz1 hz2
      generalize wr.heap.size = h at *
      go_wp2_with fail
      go_region
      go_wp2_with fail
      go_roundw
      case rel => exact ⟨2, by omega, by rfl, ⟨p, h, HOW.out.ge, HGS.out, ⟨HF.out.put 1 _, by have := HPS.out; omega, HPG.out, by have := HGL.out; omega, (HOW.out.on1 (Below.heap_setCell w1 _ _ p HPG.out)).base0 (Nat.zero_le _), (HO.out.on1 (Below.heap_setCell w1 _ _ h (by have := HGL.out; simp; omega))).base0 (Nat.zero_le _), by have := HPS.out; have := HLT.out; simp; omega, by simpa using HLT.out, Nat.zero_le _, Nat.zero_le _, by omega⟩⟩, HB.out.setCell (Nat.le_refl _) _⟩
      case measure => simp [intOf]
    · obtain ⟨p, q, h1, h2, h3⟩ := hM
      have H1 := Lib.hid h3
      have H2 := Lib.hid hbl
      clear h3 hbl hi0 hz0 hz1 hz2
      go_wp2_with fail
      go_ret
      exact ⟨w.heap.size, p, q, rfl, Nat.le_refl _, h1, h2, H1.out, H2.out⟩
  · obtain ⟨i0, hi0, hz0, hz1, hz2⟩ := info_parts info5
    go_loopw [10] (fun i wr => ∃ k : Nat, k ≤ 2 ∧ i = .int .i64 k ∧ Mk wr w.heap.size w.heap.size 1024 k ∧ Below w.heap.size w wr) (fun i _ => 2 - (intOf i).toNat)
    case atStart => exact ⟨0, by omega, rfl, Blk.fresh _ _ _, below_alloc _ _⟩
    case round =>
    obtain ⟨k, hk, rfl, hM, hbl⟩ := hrel
    have hgs := hbl.size
    obtain rfl | rfl | rfl : k = 0 ∨ k = 1 ∨ k = 2 := by omega
    · have hb : Blk wr w.heap.size 111 #[.slice none 0 0, .slice none 0 0, .int .i64 1024, .bool false] := hM
      have hgl := hb.lt
      obtain ⟨w1, hmk0, ho1, hg1⟩ := run_make_own (P := Try.prog) wr.drew wr.heap.size 22 5 i0 (.int .u8 0) 1 Try.underlying22 hi0 hz0 hz1 .i64 .i64 1024 (by rw [hz2]; omega) (by unfold maxLen; omega) (Nat.le_refl _)
      have hmk : (Instr.makeSlice 22 (.int .i64 0) (.int .i64 1024)).run Try.prog wr.drew = .ok (.slice (some ⟨wr.heap.size, 0, none⟩) 0 1024) w1 := hmk0
      have o1 : Own w1 wr.heap.size .u8 5 (.slice (some ⟨wr.heap.size, 0, none⟩) 0 1024) [] := ho1
      have hb1 : Below wr.heap.size wr.drew w1 := (Own.nil wr.drew wr.heap.size .u8 5).grown hg1 (Nat.le_refl _)
      have hbk : Blk w1 w.heap.size 111 #[.slice none 0 0, .slice none 0 0, .int .i64 1024, .bool false] := hb.drew.below hb1 hgl
      have hlt : wr.heap.size < w1.heap.size := o1.lt0
      have a2 := hb.drew.cell 2
      have b0 := hbk.cell 0
      have fz := hbk.free 0
      simp only [List.getElem?_toArray, List.getElem?_cons_zero, List.getElem?_cons_succ] at a2 b0
      have HF := Lib.hid hbk
      have HB := Lib.hid ((below_drawn hbl).trans (hb1.mono hgs))
      have HO := Lib.hid o1
      have HLT := Lib.hid hlt
      have HGL := Lib.hid hgl
      have HGS := Lib.hid hgs
      
      
      
      clear hmk0 ho1 hg1 o1 hb1 hbk hb hM hbl hlt hgl hgs hi0 hz0 hz1 hz2
      generalize wr.heap.size = h at *
      go_wp2_with fail
      go_region
      go_wp2_with fail
      go_roundw
      case rel => exact ⟨1, by omega, by rfl, ⟨h, HF.out.put 0 _, (HO.out.on1 (Below.heap_setCell w1 _ _ h (by have := HGS.out; have := HGL.out; simp; omega))).base0 HGS.out, by have := HGL.out; omega, by simpa using HLT.out⟩, HB.out.setCell (Nat.le_refl _) _⟩
      case measure => simp [intOf]
    · obtain ⟨p, hb0, ow, hpg, hps⟩ := hM
      have hb : Blk wr w.heap.size 111 #[.slice (some ⟨p, 0, none⟩) 0 1024, .slice none 0 0, .int .i64 1024, .bool false] := hb0
      clear hb0
      have hgl := hb.lt
      obtain ⟨w1, hmk0, ho1, hg1⟩ := run_make_own (P := Try.prog) wr.drew wr.heap.size 22 5 i0 (.int .u8 0) 1 Try.underlying22 hi0 hz0 hz1 .i64 .i64 1024 (by rw [hz2]; omega) (by unfold maxLen; omega) (Nat.le_refl _)
      have hmk : (Instr.makeSlice 22 (.int .i64 0) (.int .i64 1024)).run Try.prog wr.drew = .ok (.slice (some ⟨wr.heap.size, 0, none⟩) 0 1024) w1 := hmk0
      have o1 : Own w1 wr.heap.size .u8 5 (.slice (some ⟨wr.heap.size, 0, none⟩) 0 1024) [] := ho1
      have hb1 : Below wr.heap.size wr.drew w1 := (Own.nil wr.drew wr.heap.size .u8 5).grown hg1 (Nat.le_refl _)
      have hbk : Blk w1 w.heap.size 111 #[.slice (some ⟨p, 0, none⟩) 0 1024, .slice none 0 0, .int .i64 1024, .bool false] := hb.drew.below hb1 hgl
      have hlt : wr.heap.size < w1.heap.size := o1.lt0
      have a2 := hb.drew.cell 2
      have b1 := hbk.cell 1
      have fz := hbk.free 1
      simp only [List.getElem?_toArray, List.getElem?_cons_zero, List.getElem?_cons_succ] at a2 b1
      have HF := Lib.hid hbk
      have HB := Lib.hid ((below_drawn hbl).trans (hb1.mono hgs))
      have HO := Lib.hid o1
      have HLT := Lib.hid hlt
      have HGL := Lib.hid hgl
      have HGS := Lib.hid hgs
      have HOW := Lib.hid (ow.drew.below (hb1.mono (Nat.le_refl _)))
      have HPG := Lib.hid hpg
      have HPS := Lib.hid hps
      clear hmk0 ho1 hg1 o1 hb1 hbk hb ow hpg hps hbl hlt hgl hgs hi0 hz0 hz1 hz2
      generalize wr.heap.size = h at *
      go_wp2_with fail
      go_region
      go_wp2_with fail
      go_roundw
      case rel => exact ⟨2, by omega, by rfl, ⟨p, h, HOW.out.ge, HGS.out, ⟨HF.out.put 1 _, by have := HPS.out; omega, HPG.out, by have := HGL.out; omega, (HOW.out.on1 (Below.heap_setCell w1 _ _ p HPG.out)).base0 (Nat.zero_le _), (HO.out.on1 (Below.heap_setCell w1 _ _ h (by have := HGL.out; simp; omega))).base0 (Nat.zero_le _), by have := HPS.out; have := HLT.out; simp; omega, by simpa using HLT.out, Nat.zero_le _, Nat.zero_le _, by omega⟩⟩, HB.out.setCell (Nat.le_refl _) _⟩
      case measure => simp [intOf]
    · obtain ⟨p, q, h1, h2, h3⟩ := hM
      have H1 := Lib.hid h3
      have H2 := Lib.hid hbl
      clear h3 hbl hi0 hz0 hz1 hz2
      go_wp2_with fail
      go_ret
      exact ⟨w.heap.size, p, q, rfl, Nat.le_refl _, h1, h2, H1.out, H2.out⟩
  · obtain ⟨i0, hi0, hz0, hz1, hz2⟩ := info_parts info5
    go_loopw [10] (fun i wr => ∃ k : Nat, k ≤ 2 ∧ i = .int .i64 k ∧ Mk wr w.heap.size w.heap.size m k ∧ Below w.heap.size w wr) (fun i _ => 2 - (intOf i).toNat)
    case atStart => exact ⟨0, by omega, rfl, Blk.fresh _ _ _, below_alloc _ _⟩
    case round =>
    obtain ⟨k, hk, rfl, hM, hbl⟩ := hrel
    have hgs := hbl.size
    obtain rfl | rfl | rfl : k = 0 ∨ k = 1 ∨ k = 2 := by omega
    · have hb : Blk wr w.heap.size 111 #[.slice none 0 0, .slice none 0 0, .int .i64 m, .bool false] := hM
      have hgl := hb.lt
      obtain ⟨w1, hmk0, ho1, hg1⟩ := run_make_own (P := Try.prog) wr.drew wr.heap.size 22 5 i0 (.int .u8 0) 1 Try.underlying22 hi0 hz0 hz1 .i64 .i64 m (by rw [hz2]; omega) (by unfold maxLen; omega) (Nat.le_refl _)
      have hmk : (Instr.makeSlice 22 (.int .i64 0) (.int .i64 m)).run Try.prog wr.drew = .ok (.slice (some ⟨wr.heap.size, 0, none⟩) 0 m) w1 := hmk0
      have o1 : Own w1 wr.heap.size .u8 5 (.slice (some ⟨wr.heap.size, 0, none⟩) 0 m) [] := ho1
      have hb1 : Below wr.heap.size wr.drew w1 := (Own.nil wr.drew wr.heap.size .u8 5).grown hg1 (Nat.le_refl _)
      have hbk : Blk w1 w.heap.size 111 #[.slice none 0 0, .slice none 0 0, .int .i64 m, .bool false] := hb.drew.below hb1 hgl
      have hlt : wr.heap.size < w1.heap.size := o1.lt0
      have a2 := hb.drew.cell 2
      have b0 := hbk.cell 0
      have fz := hbk.free 0
      simp only [List.getElem?_toArray, List.getElem?_cons_zero, List.getElem?_cons_succ] at a2 b0
      have HF := Lib.hid hbk
      have HB := Lib.hid ((below_drawn hbl).trans (hb1.mono hgs))
      have HO := Lib.hid o1
      have HLT := Lib.hid hlt
      have HGL := Lib.hid hgl
      have HGS := Lib.hid hgs
      
      
      
      clear hmk0 ho1 hg1 o1 hb1 hbk hb hM hbl hlt hgl hgs hi0 hz0 hz1 hz2
      generalize wr.heap.size = h at *
      go_wp2_with fail
      go_region
      go_wp2_with fail
      go_roundw
      case rel => exact ⟨1, by omega, by rfl, ⟨h, HF.out.put 0 _, (HO.out.on1 (Below.heap_setCell w1 _ _ h (by have := HGS.out; have := HGL.out; simp; omega))).base0 HGS.out, by have := HGL.out; omega, by simpa using HLT.out⟩, HB.out.setCell (Nat.le_refl _) _⟩
      case measure => simp [intOf]
    · obtain ⟨p, hb0, ow, hpg, hps⟩ := hM
      have hb : Blk wr w.heap.size 111 #[.slice (some ⟨p, 0, none⟩) 0 m, .slice none 0 0, .int .i64 m, .bool false] := hb0
      clear hb0
      have hgl := hb.lt
      obtain ⟨w1, hmk0, ho1, hg1⟩ := run_make_own (P := Try.prog) wr.drew wr.heap.size 22 5 i0 (.int .u8 0) 1 Try.underlying22 hi0 hz0 hz1 .i64 .i64 m (by rw [hz2]; omega) (by unfold maxLen; omega) (Nat.le_refl _)
      have hmk : (Instr.makeSlice 22 (.int .i64 0) (.int .i64 m)).run Try.prog wr.drew = .ok (.slice (some ⟨wr.heap.size, 0, none⟩) 0 m) w1 := hmk0
      have o1 : Own w1 wr.heap.size .u8 5 (.slice (some ⟨wr.heap.size, 0, none⟩) 0 m) [] := ho1
      have hb1 : Below wr.heap.size wr.drew w1 := (Own.nil wr.drew wr.heap.size .u8 5).grown hg1 (Nat.le_refl _)
      have hbk : Blk w1 w.heap.size 111 #[.slice (some ⟨p, 0, none⟩) 0 m, .slice none 0 0, .int .i64 m, .bool false] := hb.drew.below hb1 hgl
      have hlt : wr.heap.size < w1.heap.size := o1.lt0
      have a2 := hb.drew.cell 2
      have b1 := hbk.cell 1
      have fz := hbk.free 1
      simp only [List.getElem?_toArray, List.getElem?_cons_zero, List.getElem?_cons_succ] at a2 b1
      have HF := Lib.hid hbk
      have HB := Lib.hid ((below_drawn hbl).trans (hb1.mono hgs))
      have HO := Lib.hid o1
      have HLT := Lib.hid hlt
      have HGL := Lib.hid hgl
      have HGS := Lib.hid hgs
      have HOW := Lib.hid (ow.drew.below (hb1.mono (Nat.le_refl _)))
      have HPG := Lib.hid hpg
      have HPS := Lib.hid hps
      clear hmk0 ho1 hg1 o1 hb1 hbk hb ow hpg hps hbl hlt hgl hgs hi0 hz0 hz1 hz2
      generalize wr.heap.size = h at *
      go_wp2_with fail
      go_region
      go_wp2_with fail
      go_roundw
      case rel => exact ⟨2, by omega, by rfl, ⟨p, h, HOW.out.ge, HGS.out, ⟨HF.out.put 1 _, by have := HPS.out; omega, HPG.out, by have := HGL.out; omega, (HOW.out.on1 (Below.heap_setCell w1 _ _ p HPG.out)).base0 (Nat.zero_le _), (HO.out.on1 (Below.heap_setCell w1 _ _ h (by have := HGL.out; simp; omega))).base0 (Nat.zero_le _), by have := HPS.out; have := HLT.out; simp; omega, by simpa using HLT.out, Nat.zero_le _, Nat.zero_le _, by omega⟩⟩, HB.out.setCell (Nat.le_refl _) _⟩
      case measure => simp [intOf]
    · obtain ⟨p, q, h1, h2, h3⟩ := hM
      have H1 := Lib.hid h3
      have H2 := Lib.hid hbl
      clear h3 hbl hi0 hz0 hz1 hz2
      go_wp2_with fail
      go_ret
      exact ⟨w.heap.size, p, q, rfl, Nat.le_refl _, h1, h2, H1.out, H2.out⟩
end Go.Proofs.Ytchhbcmkhbfpoaa

/- Package order: Reset, Byte, End. -/
namespace Go.Proofs.Ytchhbcmkhbfpoaa
open Go.RowKit

section
variable {g p q m : Nat} {w w' : World} {a b : List Int} {e : Bool}
/-- What a key's bytes come to. -/
theorem Ks.set (h : Ks w g p q m a b e) (ho : Only g w w') {p' q' : Nat} {a' b' : List Int} {e' : Bool} (hb : Blk w' g 111 #[.slice (some ⟨p', 0, none⟩) a'.length m, .slice (some ⟨q', 0, none⟩) b'.length m, .int .i64 m, .bool e'])
    (hq : (p' = p ∧ q' = q ∧ a' = a ∧ (b' = b ∨ b' = [])) ∨ (p' = q ∧ q' = p ∧ a' = b ∧ b' = [])) : Ks w' g p' q' m a' b' e' := by
  have hp : w'.heap[p]? = w.heap[p]? := ho.block _ h.lp (fun e => h.pg (by injection e))
  have hq' : w'.heap[q]? = w.heap[q]? := ho.block _ h.lq (fun e => h.qg (by injection e))
  have hs := ho.size
  have lp := h.lp
  have lq := h.lq
  rcases hq with ⟨rfl, rfl, rfl, rfl | rfl⟩ | ⟨rfl, rfl, rfl, rfl⟩
  · exact ⟨hb, h.pq, h.pg, h.qg, h.ow1.on1 hp, h.ow2.on1 hq', by omega, by omega, h.le1, h.le2, h.lem⟩
  · exact ⟨hb, h.pq, h.pg, h.qg, h.ow1.on1 hp, (h.ow2.on1 hq').zero, by omega, by omega, h.le1, Nat.zero_le _, h.lem⟩
  · exact ⟨hb, fun e => h.pq e.symm, h.qg, h.pg, h.ow2.on1 hq', (h.ow1.on1 hp).zero, by omega, by omega, h.le2, Nat.zero_le _, h.lem⟩
end

set_option maxRecDepth 100000 in
theorem order_Reset (w : World) (g p q m : Nat) (a b : List Int) (e : Bool) (h : Ks w g p q m a b e) :
    Calls Try.prog 82 #[.pointer (some ⟨g, 0, none⟩)] w fun r w' => r = .returned (.tuple #[]) ∧ Ks w' g p q m a [] false ∧ Tri g p q w w' := by
  have H := Lib.hid h
  have hb3 := h.blk.put 3 (.bool false)
  have ho := ((Only.refl g w).put 3 (.bool false))
  obtain ⟨c0, c1, c2, c3, hf⟩ := h.cells
  have hf3 := hf 3
  have e1 := hb3.cell 1
  have e2 := hb3.free 1
  have H1 := Lib.hid hb3
  have HO := Lib.hid ho
  simp at e1
  clear h hf hb3 ho c0 c2 c1
  go_enter Try.func82, Try.ntmps82
  go_wp2_with fail
  generalize w.setCell ⟨g, 3, none⟩ (.bool false) = w1 at *
  go_region
  go_wp2_with fail
  go_end0
  exact ⟨rfl, H.out.set ((HO.out.drew).put 1 _) (H1.out.drew.put 1 _) (.inl ⟨rfl, rfl, rfl, .inr rfl⟩), .ofG ((HO.out.drew).put 1 _)⟩

set_option maxRecDepth 100000 in
theorem order_Byte_full (w : World) (g p q m : Nat) (a b : List Int) (e : Bool) (c : Int) (h : Ks w g p q m a b e) (hl : b.length = m) :
    Calls Try.prog 59 #[.pointer (some ⟨g, 0, none⟩), .int .u8 c] w fun r w' => r = .returned (.bool false) ∧ Ks w' g p q m a b e ∧ Tri g p q w w' := by
  have H := Lib.hid h
  obtain ⟨c0, c1, c2, c3, hf⟩ := h.cells
  rw [hl] at c1
  clear h hf c0 c3
  go_enter Try.func59, Try.ntmps59
  go_wp2_with fail
  go_quiet (fail)
  go_wp2_with fail
  go_ret
  exact ⟨rfl, H.out.on (below_drawnN (Below.refl _ _) _), .ofBelow (below_drawnN (Below.refl _ _) _)⟩

set_option maxRecDepth 100000 in
theorem order_Byte (w : World) (g p q m : Nat) (a b : List Int) (e : Bool) (c : Int) (h : Ks w g p q m a b e) (hl : b.length < m) :
    Calls Try.prog 59 #[.pointer (some ⟨g, 0, none⟩), .int .u8 c] w fun r w' => r = .returned (.bool true) ∧ Ks w' g p q m a (b ++ [c]) e ∧ Tri g p q w w' := by
  have H := Lib.hid h
  obtain ⟨c0, c1, c2, c3, hf⟩ := h.cells
  have hlt : ¬ (m : Int) ≤ (b.length : Int) := by omega
  obtain ⟨i0, hi0, hz0, hz1, hz2⟩ := info_parts info5
  clear h hf c0 c3
  go_enter Try.func59, Try.ntmps59
  go_wp2_with fail
  go_quiet (fail)
  go_wp2_with fail
  have hB : Below w.heap.size w (w.drewN nq).drew := below_drawn (below_drawnN (Below.refl _ _) _)
  have hk := H.out.on hB
  have HT0 := Lib.hid (Tri.ofBelow (g := g) (p := p) (q := q) hB)
  clear hB c1 c2 H
  have bq : Blk (((w.drewN nq).drew).alloc (.cells #[.int .u8 c] 5)) (w.drewN nq).heap.size 5 (nums .u8 [c]) := Blk.fresh _ _ _
  have hA : Below (w.drewN nq).heap.size (w.drewN nq).drew (((w.drewN nq).drew).alloc (.cells #[.int .u8 c] 5)) := below_alloc (w.drewN nq).drew _
  have hkq := hk.on hA
  have HT1 := Lib.hid (HT0.out.trans (Tri.ofBelow hA))
  clear hA HT0
  obtain ⟨wq, hwq⟩ : ∃ wq, ((w.drewN nq).drew).alloc (.cells #[.int .u8 c] 5) = wq := ⟨_, rfl⟩
  rw [hwq] at bq hkq HT1
  obtain ⟨w3, hr, ho, hg⟩ := run_append_fits (P := Try.prog) wq 0 22 22 5 i0 1 Try.underlying22 hi0 hz1 q b.length m (b.map (Value.int .u8)) hkq.ow2 ⟨(w.drewN nq).heap.size, 0, none⟩ 1 1 [.int .u8 c] rfl (fun j u hj => by
    cases j with
    | zero => injection hj with hj; subst hj; exact bq.cell 0
    | succ j => cases hj) (by simp [Value.oneCell']) (by omega)
  have HG3 := Lib.hid (show Only q wq w3 from hg)
  have HO3 : Hid (Own w3 0 .u8 5 (.slice (some ⟨q, 0, none⟩) (b ++ [c]).length m) (b ++ [c])) := by
    show Own _ _ _ _ _ _
    unfold Own
    rw [List.length_append, List.map_append]
    exact ho
  have hb3 : Blk w3 g 111 #[.slice (some ⟨p, 0, none⟩) a.length m, .slice (some ⟨q, 0, none⟩) b.length m, .int .i64 m, .bool e] := hkq.blk.only HG3.out (fun e => hkq.qg e.symm)
  have c1 := hk.blk.cell 1
  have cq := hkq.blk.cell 1
  have c3 := hb3.cell 1
  have f3 := hb3.free 1
  simp only [List.getElem?_toArray, List.getElem?_cons_zero, List.getElem?_cons_succ] at c1 c3 cq
  have HR := Lib.hid hr
  have HB3 := Lib.hid hb3
  have HK := Lib.hid hkq
  have HL := Lib.hid hl
  clear hr ho hg hb3 hkq hk bq hi0 hz0 hz1 hz2 hlt hl
  generalize (w.drewN nq) = wn at *
  go_region_law (refine step_append_run rfl rfl HR.out rfl rfl ?_)
  all_goals
    go_wp2_with fail
    go_ret
    refine ⟨rfl, ?_, ?_⟩
    · have h4 := HK.out
      have n1 : g ≠ q := fun e => h4.qg e.symm
      refine ⟨by rw [List.length_append]; exact HB3.out.put 1 _, h4.pq, h4.pg, h4.qg, (h4.ow1.on1 (HG3.out.block _ h4.lp (fun e => h4.pq (by injection e)))).on1 (Below.heap_setCell w3 _ _ p h4.pg), HO3.out.on1 (Below.heap_setCell w3 _ _ q h4.qg), ?_, ?_, h4.le1, by have := HL.out; simp; omega, h4.lem⟩
      · have := h4.lp; have := HG3.out.size; simp; omega
      · have := h4.lq; have := HG3.out.size; simp; omega
    · exact HT1.out.trans ((Tri.ofQ HG3.out).trans (.ofG ((Only.refl g w3).put 1 _)))

set_option maxRecDepth 100000 in
/-- The second half of End: the lists change places. -/
theorem order_End (w : World) (g p q m : Nat) (a b : List Int) (e : Bool) (h : Ks w g p q m a b e) (ha : ByteL a) (hb : ByteL b) :
    Calls Try.prog 89 #[.pointer (some ⟨g, 0, none⟩)] w fun r w' => r = .returned (.bool (!e || ahead a b)) ∧ Ks w' g q p m b [] true ∧ Tri g p q w w' := by
  have HA := Lib.hid (fun n => order_Ahead (w.drewN n) _ _ m m a b (h.on (below_drawnN (Below.refl _ _) n)).rd1 (h.on (below_drawnN (Below.refl _ _) n)).rd2 ha hb)
  have H := Lib.hid h
  obtain ⟨c0, c1, c2, c3, hf⟩ := h.cells
  have hf3 := hf 3
  generalize ahead a b = z at *
  clear h hf ha hb
  cases e
  · go_enter Try.func89, Try.ntmps89
    go_wp2_with fail
    go_quiet (fail)
    go_wp2_with fail
    have hb3 := H.out.blk.put 3 (.bool true)
    have hB : Below w.heap.size w (w.drewN nq) := below_drawnN (Below.refl _ _) _
    have hk := H.out.on hB
    have HT := Lib.hid (Tri.ofBelow (g := g) (p := p) (q := q) hB)
    clear hB c0 c1 c2 c3 hf3 hb3 H
    generalize w.drewN nq = wn at *
    have hb3 := hk.blk.put 3 (.bool true)
    have ho := (Only.refl g wn).put 3 (.bool true)
    have HK := Lib.hid hk
    generalize wn.setCell ⟨g, 3, none⟩ (.bool true) = w1 at *
    have e0 := hb3.cell 0
    have e1 := hb3.cell 1
    have f0 := hb3.free 0
    have f1 := hb3.free 1
    simp only [List.getElem?_toArray, List.getElem?_cons_zero, List.getElem?_cons_succ, List.setIfInBounds_toArray, List.set_cons_succ, List.set_cons_zero] at e0 e1
    have H3 := Lib.hid hb3
    have HO := Lib.hid ho
    clear hb3 ho hk
    go_region
    all_goals
      go_wp2_with fail
      go_ret
      exact ⟨rfl, HK.out.set (((HO.out.put 0 _).put 1 _).drew) (((H3.out.put 0 _).put 1 _).drew) (.inr ⟨rfl, rfl, rfl, rfl⟩), HT.out.trans (.ofG ((HO.out.put 0 _).put 1 _).drew)⟩
  · go_enter Try.func89, Try.ntmps89
    go_wp2_with fail
    go_quiet ((with_reducible exact Calls.quiet_of_same (HA.out _)))
    go_wp2_with fail
    have hb3 := H.out.blk.put 3 (.bool true)
    have hB : Below w.heap.size w (w.drewN nq) := below_drawnN (Below.refl _ _) _
    have hk := H.out.on hB
    have HT := Lib.hid (Tri.ofBelow (g := g) (p := p) (q := q) hB)
    clear hB c0 c1 c2 c3 hf3 hb3 H
    generalize w.drewN nq = wn at *
    have hb3 := hk.blk.put 3 (.bool true)
    have ho := (Only.refl g wn).put 3 (.bool true)
    have HK := Lib.hid hk
    generalize wn.setCell ⟨g, 3, none⟩ (.bool true) = w1 at *
    have e0 := hb3.cell 0
    have e1 := hb3.cell 1
    have f0 := hb3.free 0
    have f1 := hb3.free 1
    simp only [List.getElem?_toArray, List.getElem?_cons_zero, List.getElem?_cons_succ, List.setIfInBounds_toArray, List.set_cons_succ, List.set_cons_zero] at e0 e1
    have H3 := Lib.hid hb3
    have HO := Lib.hid ho
    clear hb3 ho hk
    go_region
    all_goals
      go_wp2_with fail
      go_ret
      exact ⟨rfl, HK.out.set (((HO.out.put 0 _).put 1 _).drew) (((H3.out.put 0 _).put 1 _).drew) (.inr ⟨rfl, rfl, rfl, rfl⟩), HT.out.trans (.ofG ((HO.out.put 0 _).put 1 _).drew)⟩
end Go.Proofs.Ytchhbcmkhbfpoaa

/- Slices of the call's own whose elements are several cells, or no numbers. -/
namespace Go.Proofs.Ytchhbcmkhbfpoaa
open Go.RowKit
section
variable {w w' : World} {B g m n cap s j : Nat} {e : TypeId} {v : Value} {cs : List Value}
theorem oc_head (h : w.ownsRow B e s v n cs) (hn : 0 < n) : ∃ g cap, v = .slice (some ⟨g, 0, none⟩) n cap ∧ n ≤ cap ∧ cap ≤ maxLen ∧ B ≤ g ∧ g < w.heap.size := by
  rcases h.2 with ⟨_, hz⟩ | ⟨g, cap, cur, rfl, hg, hh, hn, hc, hs, ht⟩
  · omega
  · exact ⟨g, cap, rfl, hn, hc, hg, (Array.getElem?_eq_some_iff.1 hh).1⟩
/-- Its value. -/
theorem oc_form (h : w.ownsRow B e s v n cs) : ∃ A cap, v = .slice A n cap ∧ n ≤ cap ∧ cap ≤ maxLen ∧ (A = none → cap = 0) ∧ (∀ p, A = some p → ∃ g, p = ⟨g, 0, none⟩ ∧ B ≤ g ∧ g < w.heap.size) := by
  rcases h.2 with ⟨rfl, hz⟩ | ⟨g, cap, cur, rfl, hg, hh, hn, hc, hs, ht⟩
  · exact ⟨none, 0, by rw [hz], by omega, by unfold maxLen; omega, fun _ => rfl, fun p hp => by cases hp⟩
  · exact ⟨some ⟨g, 0, none⟩, cap, rfl, hn, hc, (fun h => by cases h), fun p hp => ⟨g, by injection hp with hp; exact hp.symm, hg, (Array.getElem?_eq_some_iff.1 hh).1⟩⟩
theorem oc_blk (h : w.ownsRow B e s (.slice (some ⟨g, 0, none⟩) m cap) n cs) : ∃ cur, Blk w g e cur ∧ B ≤ g ∧ n ≤ cap ∧ m = n ∧ cur.size = cap * s ∧ cur.toList.take (n * s) = cs := by
  rcases h.2 with ⟨hz, _⟩ | ⟨g', cap', cur, hv, hg, hh, hn, hc, hs, ht⟩
  · cases hz
  · injection hv with e1 e2 e3
    injection e1 with e1
    injection e1 with e1
    subst e1 e2 e3
    exact ⟨cur, hh, hg, hn, rfl, hs, ht⟩
theorem oc_cell (h : w.ownsRow B e s (.slice (some ⟨g, 0, none⟩) m cap) n cs) (hj : j < n * s) : w.cell? ⟨g, j, none⟩ = cs[j]? ∧ w.frozen? ⟨g, j, none⟩ = false := by
  obtain ⟨cur, hb, _, _, _, hs, ht⟩ := oc_blk h
  refine ⟨?_, hb.free j⟩
  rw [hb.cell, ← ht, List.getElem?_take, if_pos hj]
  simp
theorem oc_put (h : w.ownsRow B e s (.slice (some ⟨g, 0, none⟩) m cap) n cs) (j : Nat) (u : Value) : (w.setCell ⟨g, j, none⟩ u).ownsRow B e s (.slice (some ⟨g, 0, none⟩) m cap) n (cs.set j u) := by
  have hl := h.1
  rcases h.2 with ⟨hz, _⟩ | ⟨g', cap', cur, hv, hg, hh, hn, hc, hs, ht⟩
  · cases hz
  · injection hv with e1 e2 e3
    injection e1 with e1
    injection e1 with e1
    subst e1 e2 e3
    have hb : Blk w g e cur := hh
    exact ⟨by simpa using hl, .inr ⟨g, cap, cur.setIfInBounds j u, rfl, hg, hb.put j u, hn, hc, by simpa using hs, by rw [Array.toList_setIfInBounds, List.take_set, ht]⟩⟩
theorem oc_keep (h : w.ownsRow B e s v n cs) (hb : ∀ i, B ≤ i → i < w.heap.size → w'.heap[i]? = w.heap[i]?) : w'.ownsRow B e s v n cs := by
  obtain ⟨h1, h2⟩ := h
  refine ⟨h1, ?_⟩
  rcases h2 with h2 | ⟨g, cap, cur, hv, hg, hh, r⟩
  · exact .inl h2
  · exact .inr ⟨g, cap, cur, hv, hg, by rw [hb g hg (Array.getElem?_eq_some_iff.1 hh).1]; exact hh, r⟩
theorem oc_on (h : w.ownsRow B e s v n cs) (hb : Below w.heap.size w w') : w'.ownsRow B e s v n cs := oc_keep h fun i _ hi => hb.block i hi
theorem oc_alloc (h : w.ownsRow B e s v n cs) (ob : Obj) : (w.alloc ob).ownsRow B e s v n cs := oc_on h (below_alloc w ob)
theorem oc_drewN (h : w.ownsRow B e s v n cs) (k : Nat) : (w.drewN k).ownsRow B e s v n cs := h
theorem oc_less (h : w.ownsRow B e s v n cs) {B' : Nat} (hB : B' ≤ B) : w.ownsRow B' e s v n cs := by
  obtain ⟨h1, h2⟩ := h
  refine ⟨h1, ?_⟩
  rcases h2 with h2 | ⟨g, cap, cur, hv, hg, r⟩
  · exact .inl h2
  · exact .inr ⟨g, cap, cur, hv, by omega, r⟩
/-- Another block turns. -/
theorem oc_far (h : w.ownsRow B e s (.slice (some ⟨g, 0, none⟩) m cap) n cs) {p : Addr} (hp : g ≠ p.block) (u : Value) : (w.setCell p u).ownsRow B e s (.slice (some ⟨g, 0, none⟩) m cap) n cs := by
  have hl := h.1
  rcases h.2 with ⟨hz, _⟩ | ⟨g', cap', cur, hv, hg, hh, r⟩
  · cases hz
  · have hv' := hv
    injection hv with e1 e2 e3
    injection e1 with e1
    injection e1 with e1
    subst e1
    exact ⟨hl, .inr ⟨g, cap', cur, hv', hg, (Below.heap_setCell w p u g hp).trans hh, r⟩⟩
theorem oc_cut (h : w.ownsRow B e s (.slice (some ⟨g, 0, none⟩) m cap) n cs) {k : Nat} (hk : k ≤ n) : w.ownsRow B e s (.slice (some ⟨g, 0, none⟩) k cap) k (cs.take (k * s)) := by
  have hl := h.1
  have hks : k * s ≤ n * s := Nat.mul_le_mul_right s hk
  rcases h.2 with ⟨hz, _⟩ | ⟨g', cap', cur, hv, hg, hh, hn, hc, hs, ht⟩
  · cases hz
  · injection hv with e1 e2 e3
    injection e1 with e1
    injection e1 with e1
    subst e1 e2 e3
    refine ⟨by rw [List.length_take]; omega, .inr ⟨g, cap, cur, rfl, hg, hh, by omega, hc, hs, ?_⟩⟩
    rw [← ht, List.take_take, Nat.min_eq_left hks]
/-- A block that has just been made. -/
theorem oc_new (w : World) (B : Nat) (e : TypeId) (s n : Nat) (cells : Array Value) (hc : cells.size = n * s) (hB : B ≤ w.heap.size) (hn : n ≤ maxLen) : (w.alloc (.cells cells e)).ownsRow B e s (.slice (some ⟨w.heap.size, 0, none⟩) n n) n cells.toList := by
  refine ⟨by simpa using hc, .inr ⟨w.heap.size, n, cells, rfl, hB, Blk.fresh w e cells, Nat.le_refl _, hn, hc, ?_⟩⟩
  rw [← hc]
  exact List.take_of_length_le (by simp)
/-- What an append to it leaves as it was. -/
theorem oc_grown (h : w.ownsRow B e s v n cs) (hg : w.grownBy w' v.ownBlock) (hs : B ≤ w.heap.size) : Below B w w' := by
  refine ⟨hg.os, hg.tape, hg.output, hg.size, fun i hi => hg.block i (by omega) ?_⟩
  rcases h.2 with ⟨rfl, _⟩ | ⟨g, cap, cur, rfl, hB, hh, _⟩
  · simp [Value.ownBlock]
  · simp [Value.ownBlock]; omega
end
section
variable {P : Program}
theorem oc_append {w : World} {B : Nat} {t ty e : TypeId} {s bytes : Nat} {v z : Value} {n m c : Nat} {cs news : List Value} {a : Addr} (ht : P.underlying t = some (.slice e))
    (hi : (P.info? e).map (fun i => (i.zero, i.size, i.bytes)) = some (some z, s, bytes)) (hzs : z.cells.size = s) (hsz : 0 < s) (hby : bytes ≤ 64)
    (hown : w.ownsRow B e s v n cs) (hl : news.length = m * s) (hc : ∀ j u, news[j]? = some u → w.cell? (a.add j) = some u) (h1 : ∀ u ∈ news, u.oneCell' = true) (hb : n + m ≤ 1099511627776) (hB : B ≤ w.heap.size) :
    ∃ v' w', (Builtin.append_ #[t, t] ty #[v, .slice (some a) m c]).run P w = .ok v' w' ∧ w'.ownsRow B e s v' (n + m) (cs ++ news) ∧ Below B w w' ∧ w.grownBy w' v.ownBlock ∧ (v'.ownBlock = v.ownBlock ∨ v'.ownBlock = some w.heap.size) := by
  obtain ⟨i, hi0, hz0, hz1, hz2⟩ := info_parts hi
  have hm : (n + m) * bytes ≤ 140737488355328 := Nat.le_trans (Nat.mul_le_mul hb hby) (by omega : 1099511627776 * 64 ≤ 140737488355328)
  obtain ⟨v', w', h2, h3, h4, _, h5⟩ := run_append_own_at (P := P) w B t ty e i z s bytes ht hi0 hz0 hz1 hz2 hzs hsz v n cs hown a m c news hl hc h1 (by unfold maxLen; omega) hm hB
  exact ⟨v', w', h2, h3, oc_grown hown h4 hB, h4, h5⟩
theorem size_run {elem : TypeId} {sz : Nat} (hs : (P.info? elem).map (·.size) = some sz) (w : World) : (sizeOf elem).run P w = .ok sz w := by
  cases hq : P.info? elem with
  | none => simp [hq] at hs
  | some i =>
    have : i.size = sz := by simpa [hq] using hs
    simp [sizeOf, typeInfo, hq, this]
/-- s[:m] -/
theorem run_less {t elem : TypeId} {sz : Nat} (hu : P.underlying t = some (.slice elem)) (hs : (P.info? elem).map (·.size) = some sz) (w : World) (g len cap m : Nat) (mi : Int) (hmi : mi = m) (hm : m ≤ cap) :
    (Instr.sliceAt t (.slice (some ⟨g, 0, none⟩) len cap) none (some (.int .i64 mi)) none).run P w = .ok (.slice (some ⟨g, 0, none⟩) m cap) w := by
  subst hmi
  have he : P.elem t = elem := by simp [Program.elem, hu]
  rw [run_sliceAt_slice w t _ _ _ _ (by rw [he]; exact hu), run_slice_h w t _ len cap (by rw [he]; exact hu) .i64 m (by omega) (by omega), he, size_run hs]
  simp [sliced, Addr.add_mid]
/-- s[n:] -/
theorem run_cutK {t elem : TypeId} {sz : Nat} (hu : P.underlying t = some (.slice elem)) (hs : (P.info? elem).map (·.size) = some sz) (w : World) (A : Option Addr) (len cap n : Nat) (ni : Int) (hni : ni = n) (hn : n ≤ len) :
    (Instr.sliceAt t (.slice A len cap) (some (.int .i64 ni)) none none).run P w = .ok (.slice (if cap = n then A else A.map (·.add (n * sz))) (len - n) (cap - n)) w := by
  subst hni
  have he : P.elem t = elem := by simp [Program.elem, hu]
  rw [run_sliceAt_slice w t _ _ _ _ (by rw [he]; exact hu), run_slice_l w t A len cap (by rw [he]; exact hu) .i64 n (by omega) (by omega), he, size_run hs]
  simp [sliced]
end
end Go.Proofs.Ytchhbcmkhbfpoaa
