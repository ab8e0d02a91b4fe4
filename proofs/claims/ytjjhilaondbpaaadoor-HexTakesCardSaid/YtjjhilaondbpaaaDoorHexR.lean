
/- The document's answer for digits: Put, Take. -/
import Derived.Test.YtjjhilaondbpaaaDoorHexC
namespace Go.Proofs.YtjjhilaondbpaaaDoor
open Go.RowKit

theorem ref_digit (c : Int) (h0 : 0 ≤ c) (h1 : c < 256) (w : World) :
    Calls Tryd.prog 17 #[.int .u8 c] w fun e w' => e = .returned (.int .i64 (hexv c)) ∧ w' = w := by
  have HV : Hid (hexv c = if 48 ≤ c ∧ c ≤ 57 then c - 48 else if 97 ≤ c ∧ c ≤ 102 then c - 87 else -1) := rfl
  go_enter Tryd.func17, Tryd.ntmps17
  by_cases a : 48 ≤ c ∧ c ≤ 57
  · have a1 := a.1
    have a2 := a.2
    go_wp2_with fail
    go_ret
    exact ⟨by rw [HV.out, if_pos a]; rfl, rfl⟩
  · by_cases b : 97 ≤ c ∧ c ≤ 102
    · have b1 := b.1
      have b2 := b.2
      have a3 : ¬ c ≤ 57 := by omega
      have a4 : 48 ≤ c := by omega
      go_wp2_with fail
      go_ret
      exact ⟨by rw [HV.out, if_neg a, if_pos b]; rfl, rfl⟩
    · go_wp2_with fail
      all_goals go_ret
      all_goals exact ⟨by rw [HV.out, if_neg (by omega), if_neg (by omega)]; rfl, rfl⟩

/-- A digit cut out of the sixteen. -/
theorem run_digit_cut (x : Int) (h0 : 0 ≤ x) (h1 : x < 16) (w : World) : (Instr.slice 9 (.string hexDigits) (some (.int .i64 x)) (some (.int .i64 (x + 1))) none).run Tryd.prog w = .ok (.string (strOfNums [hexd x])) w := by
  obtain ⟨k, rfl⟩ : ∃ k : Nat, x = k := ⟨x.toNat, by omega⟩
  rw [run_slice_string w 9 hexDigits .i64 .i64 _ _ Tryd.underlying9 (by omega) (by omega) (by rw [show hexDigits.size = 16 by decide +kernel]; omega), show ((k : Int)).toNat = k by omega, show ((k : Int) + 1).toNat = k + 1 by omega, hex_cut k (by omega)]

/-- Two texts, one behind the other. -/
theorem run_sadd {P : Program} (a b : List Int) (h : a.length + b.length ≤ 9223372036854775807) (w : World) : (Op.stringOp .add (strOfNums a) (strOfNums b)).run P w = .ok (.string (strOfNums (a ++ b))) w := by
  rw [run_string_add_sum _ _ _ (by rw [strOfNums_size, strOfNums_size]; exact h), str_append]

set_option maxRecDepth 100000 in
theorem ref_put (w : World) (A : Option Addr) (cap : Nat) (zs : List Int) (hb : ByteL zs) (hr : Rd w w.heap.size .u8 A zs) (hl : zs.length ≤ 1000000000) :
    Calls Tryd.prog 8 #[.slice A zs.length cap] w fun e w' => e = .returned (.string (strOfNums (hexL zs))) ∧ Below w.heap.size w w' := by
  go_enter Tryd.func8, Tryd.ntmps8
  go_wp2_with fail
  have HRZ := Lib.hid hr
  clear hr
  go_loopw [4, 5] (fun v i wr => ∃ k : Nat, k ≤ zs.length ∧ i = .int .i64 k ∧ v = .string (strOfNums (hexL (zs.take k))) ∧ Below w.heap.size w wr) (fun _ i _ => zs.length - (intOf i).toNat)
  case atStart => exact ⟨0, Nat.zero_le _, rfl, rfl, Below.refl _ _⟩
  case round =>
    obtain ⟨k, hk, rfl, rfl, hbl⟩ := hrel
    by_cases hlt : k < zs.length
    · obtain ⟨b, o, rfl, hbb, hcell⟩ := (HRZ.out.below hbl).get hlt
      have hz := hb.get k
      have HT := Lib.hid (hexL_take zs k hlt)
      have HBL := Lib.hid hbl
      clear hbl
      generalize zs.getD k 0 = z at *
      have HLN : (hexL (zs.take k)).length ≤ 2000000000 := by rw [length_hexL, List.length_take]; omega
      generalize hexL (zs.take k) = H at *
      go_wp2_with fail
      go_quiet (fail)
      have HB2 := Lib.hid (below_drawnN HBL.out nq)
      generalize wr.drewN nq = w2 at *
      have p0 : 0 ≤ z / 16 := by omega
      have p1 : z / 16 < 16 := by omega
      have q0 : 0 ≤ z % 16 := by omega
      have q1 : z % 16 < 16 := by omega
      generalize z / 16 = p at *
      generalize z % 16 = q at *
      have W1 : IntKind.i64.wrap (p + 1) = p + 1 := by rw [IntKind.wrap_i64]; omega
      have W2 : IntKind.i64.wrap (q + 1) = q + 1 := by rw [IntKind.wrap_i64]; omega
      have D1 : ∀ w, (Instr.slice 9 (.string ⟨#[48, 49, 50, 51, 52, 53, 54, 55, 56, 57, 97, 98, 99, 100, 101, 102]⟩) (some (.int .i64 p)) (some (.int .i64 (p + 1))) none).run Tryd.prog w = .ok (.string (strOfNums [hexd p])) w := fun w => run_digit_cut p p0 p1 w
      have D2 : ∀ w, (Instr.slice 9 (.string ⟨#[48, 49, 50, 51, 52, 53, 54, 55, 56, 57, 97, 98, 99, 100, 101, 102]⟩) (some (.int .i64 q)) (some (.int .i64 (q + 1))) none).run Tryd.prog w = .ok (.string (strOfNums [hexd q])) w := fun w => run_digit_cut q q0 q1 w
      generalize hexd p = x at *
      generalize hexd q = y at *
      have P1 := run_sadd (P := Tryd.prog) H [x] (by simp; omega)
      have P2 := run_sadd (P := Tryd.prog) (H ++ [x]) [y] (by simp; omega)
      rw [List.append_assoc, show [x] ++ [y] = [x, y] from rfl, ← HT.out] at P2
      go_wp2_with fail
      go_quiet (fail)
      have HB3 := Lib.hid (below_drawnN HB2.out nq)
      generalize w2.drewN nq = w3 at *
      go_wp2_with fail
      go_roundw
      case rel => exact ⟨k + 1, by omega, by go_num, rfl, HB3.out⟩
      case measure => simp [intOf]; omega
    · have hk' : k = zs.length := by omega
      subst hk'
      rw [List.take_length]
      have HBL := Lib.hid hbl
      clear hbl
      go_wp2_with fail
      go_ret
      exact ⟨rfl, HBL.out⟩

set_option maxRecDepth 100000 in
theorem ref_take (s : ByteArray) (hs : s.size ≤ 1000000000) (w : World) :
    Calls Tryd.prog 12 #[.string s] w fun e w' => ∃ v, e = .returned (.tuple #[v, .bool (hexOk (sbytes s))]) ∧ Own w' w.heap.size .u8 5 v (hexT (sbytes s)) ∧ Below w.heap.size w w' := by
  have HL := Lib.hid (length_sbytes s)
  have HS := fun (w : World) (k : Nat) (hk : k < s.size) (x : Int) (hx : x = k) => run_sb (P := Tryd.prog) Tryd.underlying9 w s k hk x hx
  have HB : Hid (∀ k, 0 ≤ (sbytes s).getD k 0 ∧ (sbytes s).getD k 0 < 256) := fun k => (byte_sbytes s).get k
  have HE : Hid (∀ k, sb s k = (sbytes s).getD k 0) := fun _ => rfl
  generalize sbytes s = L at *
  by_cases hodd : s.size % 2 ≠ 0
  · have ho := hexOk_odd (L := L) (by rw [HL.out]; exact hodd)
    have h0 : (s.size : Int) % 2 = 1 := by omega
    have hx := Lib.hid (hexT_bad ho)
    go_enter Tryd.func12, Tryd.ntmps12
    go_wp2_with fail
    go_ret2
    exact ⟨.slice none 0 0, by rw [ho]; rfl, by rw [hx.out]; exact Own.nil _ _ _ _, Below.refl _ _⟩
  · have h0 : (s.size : Int) % 2 = 0 := by omega
    obtain ⟨m, hm⟩ : ∃ m, s.size = 2 * m := ⟨s.size / 2, by omega⟩
    go_enter Tryd.func12, Tryd.ntmps12
    go_wp2_with fail
    go_loopw [4, 5] (fun v i wr => ∃ k : Nat, k ≤ m ∧ i = .int .i64 (2 * (k : Int)) ∧ hexG L k ∧ Own wr w.heap.size .u8 5 v (hexB L k) ∧ Below w.heap.size w wr) (fun _ i _ => s.size - (intOf i).toNat)
    case atStart => exact ⟨0, Nat.zero_le _, rfl, fun i hi => by omega, Own.nil _ _ _ _, Below.refl _ _⟩
    case round =>
      obtain ⟨k, hk, rfl, hG, hown, hbl⟩ := hrel
      have hgs := hbl.size
      by_cases hlt : k < m
      · have hln : (hexB L k).length = k := length_hexB L k
        have S1 := fun w => HS w (2 * k) (by omega) (2 * (k : Int)) (by omega)
        have S2 := fun w => HS w (2 * k + 1) (by omega) (2 * (k : Int) + 1) (by omega)
        simp only [HE.out] at S1 S2
        have B1 := HB.out (2 * k)
        have B2 := HB.out (2 * k + 1)
        have HT : Hid (hexB L (k + 1) = hexB L k ++ [hexv (L.getD (2 * k) 0) * 16 + hexv (L.getD (2 * k + 1) 0)]) := rfl
        have HGS := Lib.hid (fun h1 h2 => hexG_succ hG h1 h2)
        have HBad := Lib.hid (fun h => hexT_bad (hexOk_bad (L := L) (i := k) (by rw [HL.out]; omega) h))
        have HBad2 := Lib.hid (fun h => hexOk_bad (L := L) (i := k) (by rw [HL.out]; omega) h)
        clear HS
        generalize L.getD (2 * k) 0 = c at *
        generalize L.getD (2 * k + 1) 0 = d at *
        have HBL := Lib.hid hbl
        have HOW := Lib.hid hown
        have HLN := Lib.hid hln
        have HC := Lib.hid (ref_digit c B1.1 B1.2)
        have HD := Lib.hid (ref_digit d B2.1 B2.2)
        have R1 := hexd_hexv c
        have R2 := hexd_hexv d
        generalize hexv c = x at *
        generalize hexv d = y at *
        obtain ⟨A1, c1, rfl, _, _, _, _, _⟩ := hown.form
        rw [hln] at HOW
        rw [hln]
        clear hbl hln
        go_wp2_with fail
        go_quiet (first | (with_reducible exact Calls.quiet_of_same (HC.out _)) | (with_reducible exact Calls.quiet_of_same (HD.out _)))
        have HB2 := below_drawnN HBL.out nq
        have ow := hown.drewN nq
        generalize wr.drewN nq = w2 at *
        by_cases hx0 : x < 0
        · have HB3 := Lib.hid HB2
          clear hown ow HB2
          go_wp2_with fail
          go_ret2
          exact ⟨.slice none 0 0, by rw [HBad2.out (Or.inl hx0)]; rfl, by rw [HBad.out (Or.inl hx0)]; exact Own.nil _ _ _ _, HB3.out⟩
        by_cases hy0 : y < 0
        · have HB3 := Lib.hid HB2
          clear hown ow HB2
          go_wp2_with fail
          go_ret2
          exact ⟨.slice none 0 0, by rw [HBad2.out (Or.inr hy0)]; rfl, by rw [HBad.out (Or.inr hy0)]; exact Own.nil _ _ _ _, HB3.out⟩
        have R3 := (R1 (by omega)).2
        have R4 := (R2 (by omega)).2
        have HG2 := Lib.hid (HGS.out (by omega) (by omega))
        clear HBad HBad2 HGS R1 R2
        have b2 : Blk (w2.alloc (.cells #[.int .u8 (x * 16 + y)] 5)) w2.heap.size 5 (nums .u8 [x * 16 + y]) := Blk.fresh w2 _ _
        have hgs := HB2.size
        obtain ⟨v3, w3, hr3, o3, hb3, _⟩ := run_append_nums (P := Tryd.prog) (ty := 22) (xs := [x * 16 + y]) (cap := 1) Tryd.underlying22 hinfo5 (by decide) (ow.alloc (.cells #[.int .u8 (x * 16 + y)] 5)) b2.rd (fun h => by cases h) (by rw [HLN.out]; simp; omega) (by show _ ≤ (w2.heap.push _).size; simp; omega)
        rw [← HT.out] at o3
        rw [HLN.out, show ([x * 16 + y] : List Int).length = 1 from rfl] at hr3
        have HR3 := Lib.hid hr3
        have O3 := Lib.hid o3
        have HB3 := Lib.hid ((HB2.alloc hgs (.cells #[.int .u8 (x * 16 + y)] 5)).trans hb3)
        clear hr3 o3 hb3 b2 ow HB2 hown
        go_wp2_with ((with_reducible refine is_append 22 rfl ?_); (with_reducible refine wpList_append_run rfl rfl HR3.out ?_ ?_ ?_); (· rfl); (· rfl))
        go_roundw
        case rel => exact ⟨k + 1, by omega, by go_num, HG2.out, O3.out, HB3.out⟩
        case measure => simp [intOf]; omega
      · have hk' : k = m := by omega
        subst hk'
        have hok : hexOk L = true := (hexOk_iff L).2 (by rw [HL.out, hm, show 2 * k / 2 = k by omega]; exact ⟨by omega, hG⟩)
        have htt := hexT_good hok
        rw [HL.out, hm, show 2 * k / 2 = k by omega] at htt
        obtain ⟨A1, c1, rfl, _, _, _, _, _⟩ := hown.form
        have HOW := Lib.hid hown
        have HBL := Lib.hid hbl
        have HOK := Lib.hid hok
        have HTT := Lib.hid htt
        clear hown hbl hok htt
        go_wp2_with fail
        go_ret2
        exact ⟨.slice A1 (hexB L k).length c1, by rw [HOK.out]; rfl, by rw [HTT.out]; exact HOW.out, HBL.out⟩
end Go.Proofs.YtjjhilaondbpaaaDoor
