
/- Package sha: bytes are handed. -/
import Derived.Test.YtnankgophbjioaaDoorShaQ
namespace Go.Proofs.YtnankgophbjioaaDoor
open Go.RowKit

def sliceLen : Value → Nat
  | .slice _ n _ => n
  | _ => 0

/-- What copy makes of a digest's cells. -/
theorem copy_dig (a r m : List Int) (n : Int) (ha : a.length = 8) (hr : r.length + m.length ≤ 64) :
    ((digC a (pad r 64) n).toList.take (8 + r.length) ++ m.map (Value.int .u8) ++ (digC a (pad r 64) n).toList.drop (8 + r.length + m.length)).toArray = digC a (pad (r ++ m) 64) n := by
  have e : (digC a (pad r 64) n).toList = a.map (Value.int .u32) ++ ((pad r 64).map (Value.int .u8) ++ [.int .u64 n]) := by simp [digC, nums]
  have la : (a.map (Value.int .u32)).length = 8 := by rw [List.length_map, ha]
  have lp : ((pad r 64).map (Value.int .u8)).length = 64 := by rw [List.length_map, length_pad]
  have e1 : (digC a (pad r 64) n).toList.take (8 + r.length) = a.map (Value.int .u32) ++ ((pad r 64).take r.length).map (Value.int .u8) := by
    rw [e, List.take_append, la, List.take_of_length_le (by rw [la]; omega), show 8 + r.length - 8 = r.length by omega, List.take_append_of_le_length (by rw [lp]; omega), List.map_take]
  have e2 : (digC a (pad r 64) n).toList.drop (8 + r.length + m.length) = ((pad r 64).drop (r.length + m.length)).map (Value.int .u8) ++ [.int .u64 n] := by
    rw [e, List.drop_append, la, List.drop_eq_nil_of_le (by rw [la]; omega), List.nil_append, show 8 + r.length + m.length - 8 = r.length + m.length by omega, List.drop_append_of_le_length (by rw [lp]; omega), List.map_drop]
  rw [e1, e2, ← pad_copy r m hr]
  simp [digC, nums]
set_option maxRecDepth 100000 in
set_option maxHeartbeats 1000000 in
theorem sha_write (w : World) (g : Nat) (l zs : List Int) (A : Option Addr) (cap : Nat) (hl : l.length + zs.length ≤ 1000000000) (bl : ByteL l) (bz : ByteL zs) (hcap : zs.length ≤ cap)
    (hg : Blk w g 35 (cellsOf l)) (hr : RdX w g .u8 A zs) (T : Tabs w) (hg2 : 2 ≤ g) :
    Calls Tryd.prog 10 #[.pointer (some ⟨g, 0, none⟩), .slice A zs.length cap] w fun e w' => e = .returned (.tuple #[]) ∧ Blk w' g 35 (cellsOf (l ++ zs)) ∧ Only g w w' := by
  go_enter Tryd.func10, Tryd.ntmps10
  go_wp2_with fail
  go_loopw [1] (fun b wr => ∃ j A' cap', j ≤ zs.length ∧ b = .slice A' (zs.length - j) cap' ∧ zs.length - j ≤ cap' ∧ RdX wr g .u8 A' (zs.drop j) ∧ Blk wr g 35 (cellsOf (l ++ zs.take j)) ∧ Only g w wr) (fun b _ => sliceLen b)
  case atStart => exact ⟨0, A, cap, Nat.zero_le _, rfl, hcap, hr, by simpa using hg, Only.refl _ _⟩
  case round =>
    obtain ⟨j, A', cap', hj, rfl, hc', hr', hg', ho⟩ := hrel
    by_cases hlt : j < zs.length
    · obtain ⟨L, eL⟩ : ∃ L, l ++ zs.take j = L := ⟨_, rfl⟩
      obtain ⟨ys, ey⟩ : ∃ ys, zs.drop j = ys := ⟨_, rfl⟩
      have hLl : L.length = l.length + j := by rw [← eL, List.length_append, List.length_take]; omega
      have hyl : ys.length = zs.length - j := by rw [← ey, List.length_drop]
      rw [eL] at hg'
      rw [ey] at hr'
      have c72 : wr.cell? ⟨g, 72, none⟩ = some (.int .u64 L.length) := (hg'.cell 72).trans (digC_length _ _ _ (length_ad _ _) (length_pad _ _))
      have hL0 : L.length ≤ 1000000000 := by omega
      have hy0 : 0 < zs.length - j := by omega
      have HY := Lib.hid hyl
      have EL := Lib.hid eL
      have EY := Lib.hid ey
      have HLL := Lib.hid hLl
      clear eL ey hLl hyl hg hr
      generalize hN : L.length = N at *
      have HN := Lib.hid hN
      clear hN
      obtain ⟨m, hm⟩ : ∃ m, Nat.min ys.length (64 - N % 64) = m := ⟨_, rfl⟩
      have hm1 : m ≤ zs.length - j := by rw [← hm, ← HY.out]; exact Nat.min_le_left _ _
      have hm2 : m ≤ 64 - N % 64 := by rw [← hm]; exact Nat.min_le_right _ _
      have hm3 : m = zs.length - j ∨ m = 64 - N % 64 := by
        rw [← hm, HY.out]
        show min _ _ = _ ∨ min _ _ = _
        omega
      have hm0 : 0 < m := by rcases hm3 with h | h <;> omega
      have hys : (ys.take (64 - N % 64)) = ys.take m := by
        rw [← hm]
        show _ = ys.take (min _ _)
        rcases Nat.le_total ys.length (64 - N % 64) with h | h
        · rw [Nat.min_eq_left h, List.take_of_length_le h, List.take_of_length_le (Nat.le_refl _)]
        · rw [Nat.min_eq_right h]
      have hym : (ys.take m).length = m := by rw [List.length_take, HY.out]; omega
      have hrl : (rest L).length = N % 64 := by rw [length_rest, HN.out]
      have hC : cellsOf L = digC (ad L (N / 64)) (pad (rest L) 64) N := by unfold cellsOf; rw [HN.out]
      have HSL := run_slice_arr (P := Tryd.prog) arrB64 elem_one wr g 8 (N % 64) ((N : Int) % 64) (by omega) (by omega)
      have HCP := run_copy_blk (P := Tryd.prog) (dT := 22) (sT := 22) (ty := 3) (elem := 5) (o := 8 + N % 64) (n := 64 - N % 64) (c := 64 - N % 64) (cap := cap') Tryd.underlying22 elem_one hg' hr' (by rw [hC, digC_size, length_ad, length_pad]; omega)
      have ecd := copy_dig (ad L (N / 64)) (rest L) (ys.take m) N (length_ad _ _) (by rw [hrl, hym]; omega)
      rw [hrl, hym] at ecd
      rw [hm, hys, hC, ecd, HY.out] at HCP
      have w2a := hg'.setRow (digC (ad L (N / 64)) (pad (rest L ++ ys.take m) 64) N)
      have w2b := ho.setRow (digC (ad L (N / 64)) (pad (rest L ++ ys.take m) 64) N)
      have w2c := hr'.only ((Only.refl g wr).setRow (digC (ad L (N / 64)) (pad (rest L ++ ys.take m) 64) N))
      obtain ⟨w2, e2⟩ : ∃ w2, wr.setRow g (digC (ad L (N / 64)) (pad (rest L ++ ys.take m) 64) N) = w2 := ⟨_, rfl⟩
      rw [e2] at HCP w2a w2b w2c
      have d72 : w2.cell? ⟨g, 72, none⟩ = some (.int .u64 N) := (w2a.cell 72).trans (digC_length _ _ _ (length_ad _ _) (length_pad _ _))
      have f72 := w2a.free 72
      have HCUT := fun w' => run_cut (P := Tryd.prog) Tryd.underlying22 elem_one w' A' (zs.length - j) cap' m (m : Int) rfl hm1
      have w3a := w2a.put 72 (.int .u64 ((N + m : Nat) : Int))
      rw [digC_putn _ _ _ _ (length_ad _ _) (length_pad _ _)] at w3a
      have w3b := w2b.put 72 (.int .u64 ((N + m : Nat) : Int))
      have w3c := (w2c.only ((Only.refl g w2).put 72 (.int .u64 ((N + m : Nat) : Int)))).cut m cap' (by rw [HY.out]; exact hc')
      have hcast : ((N + m : Nat) : Int) = (N : Int) + m := by simp
      rw [hcast] at w3a w3b w3c
      have eD : ys.drop m = zs.drop (j + m) := by rw [← EY.out, List.drop_drop]
      have eT : L ++ ys.take m = l ++ zs.take (j + m) := by rw [← EL.out, ← EY.out, List.append_assoc, List.take_add]
      rw [eD] at w3c
      have hLL : (L ++ ys.take m).length = N + m := by rw [List.length_append, hym, HN.out]
      have HGOAL : N % 64 + m < 64 → digC (ad L (N / 64)) (pad (rest L ++ ys.take m) 64) ((N : Int) + m) = cellsOf (l ++ zs.take (j + m)) := fun h => by
        rw [← eT, cells_short L (ys.take m) (by rw [HN.out, hym]; exact h), hLL, HN.out, hcast]
      have HGOAL2 : N % 64 + m = 64 → digC (addL (ad L (N / 64)) (rounds (sched (rest L ++ ys.take m) 64) (addL startL (ad L (N / 64))) 64)) (pad [] 64) ((N : Int) + m) = cellsOf (l ++ zs.take (j + m)) := fun h => by
        rw [← eT, cells_full L (ys.take m) (by rw [HN.out, hym]; exact h), hLL, HN.out, hcast]
      have hlen64 : N % 64 + m = 64 → pad (rest L ++ ys.take m) 64 = rest L ++ ys.take m := fun h => by
        have := pad_all (rest L ++ ys.take m)
        rwa [List.length_append, hrl, hym, h] at this
      have hl64 : N % 64 + m = 64 → (rest L ++ ys.take m).length = 64 := fun h => by rw [List.length_append, hrl, hym, h]
      have hbb : ByteL (rest L ++ ys.take m) := byte_append (byte_rest (by rw [← EL.out]; exact byte_append bl (byte_take bz _))) (byte_take (by rw [← EY.out]; exact byte_drop bz _) _)
      have hA8 : (ad L (N / 64)).length = 8 := length_ad _ _
      have hAI : InL (ad L (N / 64)) := inL_ad _ _
      generalize rest L ++ ys.take m = Z at *
      generalize ad L (N / 64) = D at *
      have G1 := Lib.hid HGOAL
      have G2 := Lib.hid HGOAL2
      have G3 := Lib.hid hlen64
      have G4 := Lib.hid hl64
      have W3a := Lib.hid w3a
      have W3b := Lib.hid w3b
      have W3c := Lib.hid w3c
      have HA8 := Lib.hid hA8
      have hy1 : zs.length ≤ 1000000000 := by omega
      clear HGOAL HGOAL2 hlen64 hl64 w3a w3b w3c hg' hr' ho w2a w2b w2c ecd hys hym hrl hC e2 hcast eD eT hLL hm hA8 bl bz
      by_cases hfull : N % 64 + m = 64
      · have t1 : (((N : Int) % 64 + m) == 64) = true := by rw [beq_iff_eq]; omega
        go_wp2_with fail
        have hB := W3a.out
        rw [G3.out hfull] at hB
        refine (sha_mix _ g D Z _ HA8.out hAI (G4.out hfull) hbb hB (T.only W3b.out hg2) hg2).mono ?_
        rintro e w4 ⟨rfl, hB4, ho4⟩
        rw [G2.out hfull] at hB4
        have R4 := W3c.out.only ho4
        have O4 := W3b.out.trans ho4
        clear hB
        go_wp2_with fail
        go_roundw
        case rel => exact ⟨j + m, _, _, by omega, by rw [show zs.length - (j + m) = zs.length - j - m by omega], by omega, R4, hB4, O4⟩
        case measure => simp [sliceLen]; omega
      · have t1 : (((N : Int) % 64 + m) == 64) = false := by rw [beq_eq_false_iff_ne]; omega
        go_wp2_with fail
        go_roundw
        case rel => exact ⟨j + m, _, _, by omega, by rw [show zs.length - (j + m) = zs.length - j - m by omega], by omega, W3c.out, by rw [← G1.out (by omega)]; exact W3a.out, W3b.out⟩
        case measure => simp [sliceLen]; omega
    · have hj' : j = zs.length := by omega
      subst hj'
      rw [List.take_length] at hg'
      have t0 : decide (0 < zs.length - zs.length) = false := by simp
      go_wp2
      go_end0
      exact ⟨rfl, hg', ho⟩
end Go.Proofs.YtnankgophbjioaaDoor
