
/- Package hex: Put. -/
import Derived.Test.YtjjhilaondbpaaaDoorHexA
import Derived.Test.YtjjhilaondbpaaaDoorOwnAt
import Derived.Test.YtjjhilaondbpaaaDoorSame
import Derived.Deep.RegionHeld3
import Derived.Deep.LoopGhost
namespace Go.Proofs.YtjjhilaondbpaaaDoor
open Go.RowKit

theorem hinfo5 : (Tryd.prog.info? 5).map (fun i => (i.zero, i.size, i.bytes)) = some (some (.int .u8 0), 1, 1) := by kernel_rfl
/-- A text's byte at an index of whatever kind. -/
theorem run_sbk {P : Program} {t : TypeId} (ht : P.underlying t = some .string) (k : IntKind) (w : World) (s : ByteArray) (n : Nat) (h : n < s.size) (i : Int) (hi : i = n) : (Instr.index t (.string s) (.int k i)).run P w = .ok (.int .u8 (sb s n)) w := by
  subst hi
  rw [run_index_string w t s k n ht, dif_pos (by omega)]
  show Result.ok (Value.int .u8 ((s[(n : Int).toNat]'_).toNat : Int)) w = _
  rw [show ((s[(n : Int).toNat]'(by omega)).toNat : Int) = ((s[n]'h).toNat : Int) from rfl, sb_eq]
theorem run_digit (k : IntKind) (x : Int) (h0 : 0 ≤ x) (h1 : x < 16) (w : World) : (Instr.index 9 (.string hexDigits) (.int k x)).run Tryd.prog w = .ok (.int .u8 (hexd x)) w := by
  have h := hexDigits_at ⟨x.toNat, by omega⟩
  rw [run_sbk Tryd.underlying9 k w hexDigits x.toNat (by rw [show hexDigits.size = 16 by decide +kernel]; omega) x (by omega), h, show (((⟨x.toNat, by omega⟩ : Fin 16).val : Nat) : Int) = x by simp; omega]

set_option maxRecDepth 100000 in
theorem hex_put (w : World) (A : Option Addr) (cap : Nat) (zs : List Int) (hb : ByteL zs) (hr : Rd w w.heap.size .u8 A zs) (hl : zs.length ≤ 1000000000) :
    Calls Tryd.prog 7 #[.slice A zs.length cap] w fun e w' => e = .returned (.string (strOfNums (hexL zs))) ∧ Below w.heap.size w w' := by
  obtain ⟨i0, hi0, hz0, hz1, hz2⟩ := info_parts hinfo5
  obtain ⟨w1, hmk, ho1, hg1⟩ := run_make_own (P := Tryd.prog) w w.heap.size 22 5 i0 (.int .u8 0) 1 Tryd.underlying22 hi0 hz0 hz1 .i64 .i64 (2 * zs.length) (by rw [hz2]; omega) (by unfold maxLen; omega) (Nat.le_refl _)
  rw [show ((2 * zs.length : Nat) : Int) = 2 * (zs.length : Int) by omega] at hmk
  have ho1' : Own w1 w.heap.size .u8 5 (.slice (some ⟨w.heap.size, 0, none⟩) 0 (2 * zs.length)) [] := ho1
  have hb1 : Below w.heap.size w w1 := (Own.nil w w.heap.size .u8 5).grown hg1 (Nat.le_refl _)
  clear hi0 hz0 hz1 hz2 hg1 ho1
  go_enter Tryd.func7, Tryd.ntmps7
  go_wp2_with fail
  clear hmk
  have HO1 := Lib.hid ho1'
  have HB1 := Lib.hid hb1
  clear ho1' hb1
  have HRZ := Lib.hid hr
  clear hr
  go_loopw [3, 14] (fun v i wr => ∃ k : Nat, k ≤ zs.length ∧ i = .int .i64 k ∧ Own wr w.heap.size .u8 5 v (hexL (zs.take k)) ∧ Below w.heap.size w wr) (fun _ i _ => zs.length - (intOf i).toNat)
  case atStart => exact ⟨0, Nat.zero_le _, rfl, HO1.out, HB1.out⟩
  case round =>
    obtain ⟨k, hk, rfl, hown, hbl⟩ := hrel
    have hgs := hbl.size
    by_cases hlt : k < zs.length
    · have hln : (hexL (zs.take k)).length = 2 * k := by rw [length_hexL, List.length_take]; omega
      obtain ⟨b, o, rfl, hbb, hcell⟩ := (HRZ.out.below hbl).get hlt
      have hz := hb.get k
      have HT := Lib.hid (hexL_take zs k hlt)
      generalize zs.getD k 0 = z at *
      have HH := Lib.hid (hex_halves z hz.1 hz.2)
      have D1 : ∀ w, (Instr.index 9 (.string ⟨#[48, 49, 50, 51, 52, 53, 54, 55, 56, 57, 97, 98, 99, 100, 101, 102]⟩) (.int .u32 (z / 16))).run Tryd.prog w = .ok (.int .u8 (hexd (z / 16))) w := fun w => run_digit .u32 (z / 16) (by omega) (by omega) w
      have D2 : ∀ w, (Instr.index 9 (.string ⟨#[48, 49, 50, 51, 52, 53, 54, 55, 56, 57, 97, 98, 99, 100, 101, 102]⟩) (.int .u32 (z % 16))).run Tryd.prog w = .ok (.int .u8 (hexd (z % 16))) w := fun w => run_digit .u32 (z % 16) (by omega) (by omega) w
      generalize hexd (z / 16) = x at *
      generalize hexd (z % 16) = y at *
      have b2 : Blk (wr.alloc (.cells #[.int .u8 x, .int .u8 y] 5)).drew wr.heap.size 5 (nums .u8 [x, y]) := Blk.fresh wr _ _
      obtain ⟨A1, c1, rfl, _, _, _, _, _⟩ := hown.form
      obtain ⟨v3, w3, hr3, o3, hb3, _⟩ := run_append_nums (P := Tryd.prog) (ty := 22) (xs := [x, y]) (cap := 2) Tryd.underlying22 hinfo5 (by decide) (hown.alloc (.cells #[.int .u8 x, .int .u8 y] 5)).drew b2.rd (fun h => by cases h) (by rw [hln]; simp; omega) (by show _ ≤ (wr.heap.push _).size; simp; omega)
      rw [← HT.out] at o3
      rw [hln, show ([x, y] : List Int).length = 2 from rfl] at hr3
      rw [hln]
      have HR3 := Lib.hid hr3
      have O3 := Lib.hid o3
      have HB3 := Lib.hid ((below_drawn (hbl.alloc hgs (.cells #[.int .u8 x, .int .u8 y] 5))).trans hb3)
      clear hr3 o3 hb3 b2 hown hbl hln
      go_wp2_with (go_at_call 14; with_reducible refine (HH.out _).mono ?_; rintro e w' ⟨rfl, rfl⟩)
      go_region_held3 (fun _ => True) (trivial) ((refine step_append_run rfl rfl HR3.out rfl rfl ?_))
      all_goals go_wp2_with fail
      all_goals exact ⟨⟨k + 1, by omega, by go_num, O3.out, HB3.out⟩, by simp [intOf]; omega⟩
    · have hk' : k = zs.length := by omega
      subst hk'
      rw [List.take_length] at hown
      obtain ⟨A1, c1, rfl, _, _, _, _, hR⟩ := hown.form
      have HS := run_str (P := Tryd.prog) Tryd.underlying22 Tryd.underlying5 Tryd.underlying9 c1 hR
      have HBL := Lib.hid hbl
      clear hbl hown hR
      go_wp2_with fail
      go_ret
      exact ⟨rfl, HBL.out⟩
end Go.Proofs.YtjjhilaondbpaaaDoor
