
/- Package blake: bytes are handed. -/
import Derived.Test.YtgcboodlneknpaaDoorBlakeQ
namespace Go.Proofs.YtgcboodlneknpaaDoor
open Go.RowKit

set_option maxRecDepth 100000 in
set_option maxHeartbeats 2000000 in
theorem blake_write (w : World) (g : Nat) (l zs : List Int) (A : Option Addr) (cap : Nat) (hl : l.length + zs.length ≤ 1000000000) (bl : ByteL l) (bz : ByteL zs) (hcap : zs.length ≤ cap)
    (hg : Blk w g 34 (bcells l)) (hr : RdX w g .u8 A zs) (T : BTabs w) (hg2 : bTop ≤ g) :
    Calls Tryd.prog 10 #[.pointer (some ⟨g, 0, none⟩), .slice A zs.length cap] w fun e w' => e = .returned (.tuple #[]) ∧ Blk w' g 34 (bcells (l ++ zs)) ∧ Only g w w' := by
  go_enter Tryd.func10, Tryd.ntmps10
  go_wp2_with fail
  go_loopw [1] (fun b wr => ∃ j A' cap', j ≤ zs.length ∧ b = .slice A' (zs.length - j) cap' ∧ zs.length - j ≤ cap' ∧ RdX wr g .u8 A' (zs.drop j) ∧ Blk wr g 34 (bcells (l ++ zs.take j)) ∧ Only g w wr) (fun b _ => sliceLen b)
  case atStart => exact ⟨0, A, cap, Nat.zero_le _, rfl, hcap, hr, by simpa using hg, Only.refl _ _⟩
  case round =>
    obtain ⟨j, A', cap', hj, rfl, hc', hr', hg', ho⟩ := hrel
    by_cases hlt : j < zs.length
    · obtain ⟨L, eL⟩ : ∃ L, l ++ zs.take j = L := ⟨_, rfl⟩
      obtain ⟨ys, ey⟩ : ∃ ys, zs.drop j = ys := ⟨_, rfl⟩
      have hLl : L.length = l.length + j := by rw [← eL, List.length_append, List.length_take]; omega
      have hyl : ys.length = zs.length - j := by rw [← ey, List.length_drop]
      have hLb : ByteL L := by rw [← eL]; exact byte_append bl (byte_take bz _)
      rw [eL] at hg'
      rw [ey] at hr'
      have hL0 : L.length ≤ 1000000000 := by omega
      have hy0 : 0 < zs.length - j := by omega
      have hy1 : zs.length ≤ 1000000000 := by omega
      have HY := Lib.hid hyl
      have EL := Lib.hid eL
      have EY := Lib.hid ey
      clear eL ey hyl hg hr hLl
      -- what is known behind the block that may be mixed first
      have HTAIL : Hid (∀ (k : Nat) (w1 : World), 128 * k ≤ L.length → L.length < 128 * k + 128 → Blk w1 g 34 (bC L k) → RdX w1 g .u8 A' ys → Only g w w1 →
          ∃ m w2 w3, 0 < m ∧ m ≤ zs.length - j ∧ m ≤ 128 - (L.length - 128 * k) ∧
            (∀ w', (Instr.sliceAt 32 (.pointer (some ⟨g, 8, none⟩)) (some (.int .i64 ((L.length - 128 * k : Nat) : Int))) none none).run Tryd.prog w' = .ok (.slice (some ⟨g, 8 + (L.length - 128 * k), none⟩) (128 - (L.length - 128 * k)) (128 - (L.length - 128 * k))) w') ∧
            (Builtin.copy_ #[22, 22] 3 #[.slice (some ⟨g, 8 + (L.length - 128 * k), none⟩) (128 - (L.length - 128 * k)) (128 - (L.length - 128 * k)), .slice A' (zs.length - j) cap']).run Tryd.prog w1 = .ok (goInt m) w2 ∧
            (∀ w', (Instr.sliceAt 22 (.slice A' (zs.length - j) cap') (some (.int .i64 (m : Int))) none none).run Tryd.prog w' = .ok (.slice (cutA A' m cap') (zs.length - j - m) (cap' - m)) w') ∧
            w2.cell? ⟨g, 136, none⟩ = some (.int .i64 ((L.length - 128 * k : Nat) : Int)) ∧ w2.cell? ⟨g, 137, none⟩ = some (.int .u64 (L.length : Nat)) ∧ w2.frozen? ⟨g, 136, none⟩ = false ∧ w2.frozen? ⟨g, 137, none⟩ = false ∧
            w3 = (w2.setCell ⟨g, 136, none⟩ (.int .i64 ((L.length - 128 * k + m : Nat) : Int))).setCell ⟨g, 137, none⟩ (.int .u64 ((L.length + m : Nat) : Int)) ∧
            RdX w3 g .u8 (cutA A' m cap') (zs.drop (j + m)) ∧ Blk w3 g 34 (bcells (l ++ zs.take (j + m))) ∧ Only g w w3) := by
        unfold Hid
        intro k w1 h1 h2 b1 r1 o1
        obtain ⟨n, en⟩ : ∃ n, L.length - 128 * k = n := ⟨_, rfl⟩
        rw [en]
        have hn : n < 128 := by omega
        have hys := HY.out
        obtain ⟨m, hm⟩ : ∃ m, Nat.min ys.length (128 - n) = m := ⟨_, rfl⟩
        have hm1 : m ≤ zs.length - j := by rw [← hm, ← hys]; exact Nat.min_le_left _ _
        have hm2 : m ≤ 128 - n := by rw [← hm]; exact Nat.min_le_right _ _
        have hm3 : m = zs.length - j ∨ m = 128 - n := by
          rw [← hm, hys]
          show min _ _ = _ ∨ min _ _ = _
          omega
        have hm0 : 0 < m := by rcases hm3 with h | h <;> omega
        have hyt : ys.take (128 - n) = ys.take m := by
          rw [← hm]
          show _ = ys.take (min _ _)
          rcases Nat.le_total ys.length (128 - n) with h | h
          · rw [Nat.min_eq_left h, List.take_of_length_le h, List.take_of_length_le (Nat.le_refl _)]
          · rw [Nat.min_eq_right h]
        have hym : (ys.take m).length = m := by rw [List.length_take, hys]; omega
        have hrl : (L.drop (128 * k)).length = n := by rw [List.length_drop]; exact en
        have HSL := fun w' => run_slice_arr (P := Tryd.prog) arrB128 elem_one w' g 8 n (n : Int) rfl hn
        have HCP := run_copy_blk (P := Tryd.prog) (dT := 22) (sT := 22) (ty := 3) (elem := 5) (o := 8 + n) (n := 128 - n) (c := 128 - n) (cap := cap') Tryd.underlying22 elem_one b1 r1 (by rw [bC_size]; omega)
        have ecd := copy_bdig (bch L k) (L.drop (128 * k)) (ys.take m) (n : Nat) (L.length : Nat) (length_bch _ _) (by rw [hrl, hym]; omega)
        rw [hrl, hym] at ecd
        have hC : bC L k = bdigC (bch L k) (pad (L.drop (128 * k)) 128) (n : Nat) (L.length : Nat) := by unfold bC; rw [en]
        rw [hm, hyt, hC, ecd, hys] at HCP
        have a2 := b1.setRow (bdigC (bch L k) (pad (L.drop (128 * k) ++ ys.take m) 128) (n : Nat) (L.length : Nat))
        have p2 := o1.setRow (bdigC (bch L k) (pad (L.drop (128 * k) ++ ys.take m) 128) (n : Nat) (L.length : Nat))
        have q2 := r1.only ((Only.refl g w1).setRow (bdigC (bch L k) (pad (L.drop (128 * k) ++ ys.take m) 128) (n : Nat) (L.length : Nat)))
        obtain ⟨w2, e2⟩ : ∃ w2, w1.setRow g (bdigC (bch L k) (pad (L.drop (128 * k) ++ ys.take m) 128) (n : Nat) (L.length : Nat)) = w2 := ⟨_, rfl⟩
        rw [e2] at HCP a2 p2 q2
        have d1 := (a2.cell 136).trans (bdigC_held _ _ _ _ (length_bch _ _) (length_pad _ _))
        have d2 := (a2.cell 137).trans (bdigC_len _ _ _ _ (length_bch _ _) (length_pad _ _))
        have HCUT := fun w' => run_cut (P := Tryd.prog) Tryd.underlying22 elem_one w' A' (zs.length - j) cap' m (m : Int) rfl hm1
        have a3 := (a2.put 136 (.int .i64 ((n + m : Nat) : Int))).put 137 (.int .u64 ((L.length + m : Nat) : Int))
        rw [bdigC_puth _ _ _ _ _ (length_bch _ _) (length_pad _ _), bdigC_putn _ _ _ _ _ (length_bch _ _) (length_pad _ _)] at a3
        have hap := bC_append L (ys.take m) k h1
        rw [hym, en] at hap
        rw [← hap] at a3
        have eD : ys.drop m = zs.drop (j + m) := by rw [← EY.out, List.drop_drop]
        have eT : L ++ ys.take m = l ++ zs.take (j + m) := by rw [← EL.out, ← EY.out, List.append_assoc, List.take_add]
        have hLL : (L ++ ys.take m).length = L.length + m := by rw [List.length_append, hym]
        have ebc : bC (L ++ ys.take m) k = bcells (l ++ zs.take (j + m)) := by
          rw [← eT]
          unfold bcells
          rw [bnb_eq _ k (by rw [hLL]; omega) (by rw [hLL]; omega)]
        rw [ebc] at a3
        have q3 := (q2.only (((Only.refl g w2).put 136 (.int .i64 ((n + m : Nat) : Int))).put 137 (.int .u64 ((L.length + m : Nat) : Int)))).cut m cap' (by rw [hys]; exact hc')
        rw [eD] at q3
        exact ⟨m, w2, _, hm0, hm1, hm2, HSL, HCP, HCUT, d1, d2, a2.free 136, a2.free 137, rfl, q3, a3, (p2.put 136 _).put 137 _⟩
      obtain ⟨k, ek⟩ : ∃ k, bnb L.length = k := ⟨_, rfl⟩
      have hk := bnb_le L.length
      have hgk : Blk wr g 34 (bC L k) := by rw [← ek]; exact hg'
      rw [ek] at hk
      have HLB := Lib.hid hLb
      clear ek hg' hLb bl bz EL EY
      have c136 : wr.cell? ⟨g, 136, none⟩ = some (.int .i64 ((L.length - 128 * k : Nat) : Int)) := (hgk.cell 136).trans (bC_held L k)
      by_cases hfull : L.length = 128 * k + 128
      · have e128 : ((L.length - 128 * k : Nat) : Int) = 128 := by omega
        rw [e128] at c136
        have HM := Lib.hid (blake_mix wr g (bch L k) (pad (L.drop (128 * k)) 128) ((L.length - 128 * k : Nat) : Int) (L.length : Nat) false (length_bch _ _) (in6_bch _ _ (by omega)) (length_pad _ _) ((byte_drop HLB.out _).pad 128) (by omega) hgk (T.only ho hg2) hg2)
        have HF := Lib.hid (bC_full L k hfull)
        have RR := Lib.hid hr'
        have OO := Lib.hid ho
        clear hgk e128 HLB hr' ho
        go_wp2_with fail
        refine HM.out.mono ?_
        rintro e w1 ⟨rfl, b1, o1⟩
        rw [HF.out] at b1
        obtain ⟨m, w2, w3, hm0, hm1, hm2, HSL, HCP, HCUT, d1, d2, f1, f2, e3, r3, b3, o3⟩ := HTAIL.out (k + 1) w1.drew (by omega) (by omega) b1.drew (RR.out.only o1).drew (OO.out.trans o1).drew
        have hz : L.length - 128 * (k + 1) = 0 := by omega
        have c1 : w1.cell? ⟨g, 136, none⟩ = some (.int .i64 ((L.length - 128 * (k + 1) : Nat) : Int)) := (b1.cell 136).trans (bC_held L (k + 1))
        have HX := Lib.hid (And.intro r3 (And.intro b3 o3))
        have E3 := Lib.hid e3
        clear r3 b3 o3 e3 b1 o1 HM HF HTAIL RR OO
        rw [hz] at HSL HCP d1 c1 E3
        clear hz hfull
        generalize L.length = N at *
        simp only [Nat.add_zero, Nat.sub_zero, Nat.zero_add, Int.natCast_zero] at HSL HCP E3 d1 c1
        have hcast : ((N + m : Nat) : Int) = (N : Int) + m := by simp
        rw [hcast] at E3
        go_wp2_with fail
        go_still_tail 9, (by kernel_rfl)
        go_wp2_with fail
        go_roundw
        case rel => exact ⟨j + m, _, _, by omega, by rw [show zs.length - (j + m) = zs.length - j - m by omega], by omega, (by rw [← E3.out]; exact HX.out.1), (by rw [← E3.out]; exact HX.out.2.1), (by rw [← E3.out]; exact HX.out.2.2)⟩
        case measure => simp [sliceLen]; omega
      · obtain ⟨m, w2, w3, hm0, hm1, hm2, HSL, HCP, HCUT, d1, d2, f1, f2, e3, r3, b3, o3⟩ := HTAIL.out k wr.drew (by omega) (by omega) hgk.drew hr'.drew ho.drew
        have hn : L.length - 128 * k < 128 := by omega
        have HX := Lib.hid (And.intro r3 (And.intro b3 o3))
        have E3 := Lib.hid e3
        clear r3 b3 o3 e3 HTAIL hgk hr' ho hfull hk
        generalize L.length - 128 * k = n at *
        generalize L.length = N at *
        have t1 : ((n : Int) == 128) = false := by rw [beq_eq_false_iff_ne]; omega
        have hcast : ((N + m : Nat) : Int) = (N : Int) + m := by simp
        have hcast' : ((n + m : Nat) : Int) = (n : Int) + m := by simp
        rw [hcast, hcast'] at E3
        clear hcast hcast'
        go_wp2_with fail
        go_still_tail 9, (by kernel_rfl)
        go_wp2_with fail
        go_roundw
        case rel => exact ⟨j + m, _, _, by omega, by rw [show zs.length - (j + m) = zs.length - j - m by omega], by omega, (by rw [← E3.out]; exact HX.out.1), (by rw [← E3.out]; exact HX.out.2.1), (by rw [← E3.out]; exact HX.out.2.2)⟩
        case measure => simp [sliceLen]; omega
    · have hj' : j = zs.length := by omega
      subst hj'
      rw [List.take_length] at hg'
      have t0 : decide (0 < zs.length - zs.length) = false := by simp
      go_wp2
      go_end0
      exact ⟨rfl, hg', ho⟩
end Go.Proofs.YtgcboodlneknpaaDoor
