
/- Package hex: Take. -/
import Derived.Test.YtjjhilaondbpaaaDoorHexB
namespace Go.Proofs.YtjjhilaondbpaaaDoor
open Go.RowKit

theorem below_drawnN {w0 w : World} {B : Nat} (h : Below B w0 w) (n : Nat) : Below B w0 (w.drewN n) := ⟨h.os, h.tape, h.output, h.size, h.block⟩
set_option maxRecDepth 100000 in
theorem hex_take (s : ByteArray) (hs : s.size ≤ 1000000000) (w : World) :
    Calls Tryd.prog 6 #[.string s] w fun e w' => ∃ v, e = .returned (.tuple #[v, .bool (hexOk (sbytes s))]) ∧ Own w' w.heap.size .u8 5 v (hexT (sbytes s)) ∧ Below w.heap.size w w' := by
  have HL := Lib.hid (length_sbytes s)
  have HS := fun (w : World) (k : Nat) (hk : k < s.size) (x : Int) (hx : x = k) => run_sb (P := Tryd.prog) Tryd.underlying9 w s k hk x hx
  have HB : Hid (∀ k, 0 ≤ (sbytes s).getD k 0 ∧ (sbytes s).getD k 0 < 256) := fun k => (byte_sbytes s).get k
  have HE : Hid (∀ k, sb s k = (sbytes s).getD k 0) := fun _ => rfl
  generalize sbytes s = L at *
  by_cases hodd : s.size % 2 ≠ 0
  · have ho := hexOk_odd (L := L) (by rw [HL.out]; exact hodd)
    have h0 : (s.size : Int) % 2 = 1 := by omega
    have hx := Lib.hid (hexT_bad ho)
    go_enter Tryd.func6, Tryd.ntmps6
    go_wp2_with fail
    go_ret2
    exact ⟨.slice none 0 0, by rw [ho]; rfl, by rw [hx.out]; exact Own.nil _ _ _ _, Below.refl _ _⟩
  · have h0 : (s.size : Int) % 2 = 0 := by omega
    obtain ⟨m, hm⟩ : ∃ m, s.size = 2 * m := ⟨s.size / 2, by omega⟩
    have h1 : (s.size : Int) / 2 = m := by omega
    obtain ⟨i0, hi0, hz0, hz1, hz2⟩ := info_parts hinfo5
    obtain ⟨w1, hmk, ho1, hg1⟩ := run_make_own (P := Tryd.prog) w w.heap.size 22 5 i0 (.int .u8 0) 1 Tryd.underlying22 hi0 hz0 hz1 .i64 .i64 m (by rw [hz2]; omega) (by unfold maxLen; omega) (Nat.le_refl _)
    have ho1' : Own w1 w.heap.size .u8 5 (.slice (some ⟨w.heap.size, 0, none⟩) 0 m) [] := ho1
    have HB1 := Lib.hid ((Own.nil w w.heap.size .u8 5).grown hg1 (Nat.le_refl _))
    have HO1 := Lib.hid ho1'
    clear hi0 hz0 hz1 hz2 hg1 ho1 ho1'
    go_enter Tryd.func6, Tryd.ntmps6
    go_wp2_with fail
    clear hmk
    go_loopw [4, 5] (fun v i wr => ∃ k : Nat, k ≤ m ∧ i = .int .i64 (2 * (k : Int)) ∧ hexG L k ∧ Own wr w.heap.size .u8 5 v (hexB L k) ∧ Below w.heap.size w wr) (fun _ i _ => s.size - (intOf i).toNat)
    case atStart => exact ⟨0, Nat.zero_le _, rfl, fun i hi => by omega, HO1.out, HB1.out⟩
    case round =>
      obtain ⟨k, hk, rfl, hG, hown, hbl⟩ := hrel
      have hgs := hbl.size
      by_cases hlt : k < m
      · have hln : (hexB L k).length = k := length_hexB L k
        have S1 := fun w => HS w (2 * k) (by omega) (2 * (k : Int)) (by omega)
        have S2 := fun w => HS w (2 * k + 1) (by omega) (2 * (k : Int) + 1) (by omega)
        simp only [HE.out] at S1 S2
        have B1 := HB.out (2 * k)
        have B2 := HB.out (2 * k + 1)
        have HT : Hid (hexB L (k + 1) = hexB L k ++ [hexv (L.getD (2 * k) 0) * 16 + hexv (L.getD (2 * k + 1) 0)]) := rfl
        have HGS := Lib.hid (fun h1 h2 => hexG_succ hG h1 h2)
        have HBad := Lib.hid (fun h => hexT_bad (hexOk_bad (L := L) (i := k) (by rw [HL.out]; omega) h))
        have HBad2 := Lib.hid (fun h => hexOk_bad (L := L) (i := k) (by rw [HL.out]; omega) h)
        clear HS
        generalize L.getD (2 * k) 0 = c at *
        generalize L.getD (2 * k + 1) 0 = d at *
        have HBL := Lib.hid hbl
        have HOW := Lib.hid hown
        have HLN := Lib.hid hln
        obtain ⟨A1, c1, rfl, _, _, _, _, _⟩ := hown.form
        rw [hln] at HOW
        rw [hln]
        clear hbl hln
        by_cases hbad : hexv c < 0 ∨ hexv d < 0
        · have HW := Lib.hid (hex_whole_bad c d B1.1 B1.2 B2.1 B2.2 hbad)
          clear hown
          go_wp2_with fail
          go_quiet (exact Calls.quiet_of_same (HW.out _))
          have HB2 := Lib.hid (below_drawnN HBL.out nq)
          generalize wr.drewN nq = w2 at *
          go_wp2_with fail
          go_ret2
          exact ⟨.slice none 0 0, by rw [HBad2.out hbad]; rfl, by rw [HBad.out hbad]; exact Own.nil _ _ _ _, HB2.out⟩
        · have hc : 0 ≤ hexv c := by omega
          have hd : 0 ≤ hexv d := by omega
          have HW := Lib.hid (hex_whole_good c d B1.1 B1.2 B2.1 B2.2 hc hd)
          have HG2 := Lib.hid (HGS.out hc hd)
          clear hbad HBad HBad2 HGS
          generalize hexv c * 16 + hexv d = x at *
          go_wp2_with fail
          go_quiet (exact Calls.quiet_of_same (HW.out _))
          have HB2 := below_drawnN HBL.out nq
          have ow := hown.drewN nq
          generalize wr.drewN nq = w2 at *
          have b2 : Blk (w2.alloc (.cells #[.int .u8 x] 5)) w2.heap.size 5 (nums .u8 [x]) := Blk.fresh w2 _ _
          have hgs := HB2.size
          obtain ⟨v3, w3, hr3, o3, hb3, _⟩ := run_append_nums (P := Tryd.prog) (ty := 22) (xs := [x]) (cap := 1) Tryd.underlying22 hinfo5 (by decide) (ow.alloc (.cells #[.int .u8 x] 5)) b2.rd (fun h => by cases h) (by rw [HLN.out]; simp; omega) (by show _ ≤ (w2.heap.push _).size; simp; omega)
          rw [← HT.out] at o3
          rw [HLN.out, show ([x] : List Int).length = 1 from rfl] at hr3
          have HR3 := Lib.hid hr3
          have O3 := Lib.hid o3
          have HB3 := Lib.hid ((HB2.alloc hgs (.cells #[.int .u8 x] 5)).trans hb3)
          clear hr3 o3 hb3 b2 ow HB2 hown
          go_wp2_with ((with_reducible refine is_append 22 rfl ?_); (with_reducible refine wpList_append_run rfl rfl HR3.out ?_ ?_ ?_); (· rfl); (· rfl))
          go_roundw
          case rel => exact ⟨k + 1, by omega, by go_num, HG2.out, O3.out, HB3.out⟩
          case measure => simp [intOf]; omega
      · have hk' : k = m := by omega
        subst hk'
        have hok : hexOk L = true := (hexOk_iff L).2 (by rw [HL.out, hm, show 2 * k / 2 = k by omega]; exact ⟨by omega, hG⟩)
        have htt := hexT_good hok
        rw [HL.out, hm, show 2 * k / 2 = k by omega] at htt
        obtain ⟨A1, c1, rfl, _, _, _, _, _⟩ := hown.form
        have HOW := Lib.hid hown
        have HBL := Lib.hid hbl
        have HOK := Lib.hid hok
        have HTT := Lib.hid htt
        clear hown hbl hok htt
        go_wp2_with fail
        go_ret2
        exact ⟨.slice A1 (hexB L k).length c1, by rw [HOK.out]; rfl, by rw [HTT.out]; exact HOW.out, HBL.out⟩
end Go.Proofs.YtjjhilaondbpaaaDoor
