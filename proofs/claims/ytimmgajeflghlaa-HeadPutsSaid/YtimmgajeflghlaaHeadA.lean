
/- Package head: small functions. -/
import Derived.Test.YtimmgajeflghlaaRows
import Derived.Test.YtimmgajeflghlaaHeadP
import Derived.Test.YtimmgajeflghlaaBlk
import Derived.Test.YtimmgajeflghlaaMask
import Derived.Test.YtimmgajeflghlaaQTail
import Derived.StillTailTactics
namespace Go.Proofs.Ytimmgajeflghlaa
open Go.RowKit

def LW (a W : Int) : Prop := W = 1 ∨ (W = 2 ∧ 256 ≤ a) ∨ (W = 4 ∧ 65536 ≤ a) ∨ (W = 8 ∧ 4294967296 ≤ a)
theorem head_least (a : Int) (h0 : 0 ≤ a) (h1 : a < 18446744073709551616) (w : World) :
    Calls Try.prog 21 #[.int .u64 a] w fun e w' => e = .returned (.int .i64 (leastW a)) ∧ w = w' := by
  by_cases h24 : a < 24
  · have e : leastW a = 0 := by unfold leastW; rw [if_pos h24]
    rw [e]
    clear e
    go_enter Try.func21, Try.ntmps21
    go_wp2
    go_ret
    exact ⟨rfl, rfl⟩
  · have HL : Hid (∀ W, LW a W → (W = 1 → a < 256) → (W = 2 → a < 65536) → (W = 4 → a < 4294967296) → W = leastW a) := by
      intro W hW h1 h2 h4
      unfold leastW
      rcases hW with rfl | ⟨rfl, _⟩ | ⟨rfl, _⟩ | ⟨rfl, _⟩ <;> (repeat' split) <;> omega
    go_enter Try.func21, Try.ntmps21
    go_wp2
    go_loop [3] (fun y => ∃ W : Int, y = .int .i64 W ∧ LW a W) (fun y => 8 - (intOf y).toNat)
    case atStart => exact ⟨1, rfl, Or.inl rfl⟩
    case round =>
      obtain ⟨W, rfl, hW⟩ := hrel
      have HW := Lib.hid hW
      rcases hW with rfl | ⟨rfl, hb⟩ | ⟨rfl, hb⟩ | ⟨rfl, hb⟩
      · by_cases hq : a / 256 = 0
        · go_wp2
          go_ret
          exact ⟨ret_num (HL.out _ HW.out (by omega) (by omega) (by omega)), rfl⟩
        · have hq' : (a / 256 == 0) = false := by simp [hq]
          go_wp2
          go_round
          case rel => exact ⟨2, rfl, Or.inr (Or.inl ⟨rfl, by omega⟩)⟩
          case measure => simp [intOf]
      · by_cases hq : a / 65536 = 0
        · go_wp2
          go_ret
          exact ⟨ret_num (HL.out _ HW.out (by omega) (by omega) (by omega)), rfl⟩
        · go_wp2
          go_round
          case rel => exact ⟨4, rfl, Or.inr (Or.inr (Or.inl ⟨rfl, by omega⟩))⟩
          case measure => simp [intOf]
      · by_cases hq : a / 4294967296 = 0
        · go_wp2
          go_ret
          exact ⟨ret_num (HL.out _ HW.out (by omega) (by omega) (by omega)), rfl⟩
        · go_wp2
          go_round
          case rel => exact ⟨8, rfl, Or.inr (Or.inr (Or.inr ⟨rfl, by omega⟩))⟩
          case measure => simp [intOf]
      · go_wp2
        go_ret
        exact ⟨ret_num (HL.out _ HW.out (by omega) (by omega) (by omega)), rfl⟩

theorem hblk {w : World} {g : Nat} {t : TypeId} {m W a l e : Int} {o : Bool} (h : Blk w g t (hcells ⟨m, W, a, l, o, e⟩)) :
    w.cell? ⟨g, 0, none⟩ = some (.int .i64 m) ∧ w.cell? ⟨g, 1, none⟩ = some (.int .i64 W) ∧ w.cell? ⟨g, 2, none⟩ = some (.int .u64 a) ∧ w.cell? ⟨g, 3, none⟩ = some (.int .i64 l) ∧ w.cell? ⟨g, 4, none⟩ = some (.bool o) ∧ w.cell? ⟨g, 5, none⟩ = some (.int .i64 e) ∧ (∀ i, w.frozen? ⟨g, i, none⟩ = false) :=
  ⟨h.cell 0, h.cell 1, h.cell 2, h.cell 3, h.cell 4, h.cell 5, h.free⟩
theorem hcells_one (q : HQ) : (hcells q).all (·.oneCell') = true := by
  rw [Array.all_eq_true_iff_forall_mem]
  intro x hx
  simp [hcells] at hx
  rcases hx with rfl | rfl | rfl | rfl | rfl | rfl <;> rfl
theorem hblk_put {w : World} {g : Nat} {t : TypeId} {q : HQ} (h : Blk w g t (hcells q)) (m W a l : Int) (o : Bool) (e : Int) :
    Blk ((((((w.setCell ⟨g, 0, none⟩ (.int .i64 m)).setCell ⟨g, 1, none⟩ (.int .i64 W)).setCell ⟨g, 2, none⟩ (.int .u64 a)).setCell ⟨g, 3, none⟩ (.int .i64 l)).setCell ⟨g, 4, none⟩ (.bool o)).setCell ⟨g, 5, none⟩ (.int .i64 e)) g t (hcells ⟨m, W, a, l, o, e⟩) :=
  (((((h.put 0 (.int .i64 m)).put 1 (.int .i64 W)).put 2 (.int .u64 a)).put 3 (.int .i64 l)).put 4 (.bool o)).put 5 (.int .i64 e)
theorem honly_put (g : Nat) (w : World) (x0 x1 x2 x3 x4 x5 : Value) :
    Only g w ((((((w.setCell ⟨g, 0, none⟩ x0).setCell ⟨g, 1, none⟩ x1).setCell ⟨g, 2, none⟩ x2).setCell ⟨g, 3, none⟩ x3).setCell ⟨g, 4, none⟩ x4).setCell ⟨g, 5, none⟩ x5) :=
  ((((((Only.refl g w).put 0 _).put 1 _).put 2 _).put 3 _).put 4 _).put 5 _
theorem and31 (c : Int) (h0 : 0 ≤ c) (h1 : c < 256) : bits .and .u8 c 31 = c % 32 := by
  obtain ⟨n, rfl⟩ := Int.eq_ofNat_of_zero_le h0
  have h : ∀ k : Fin 256, bits .and .u8 (k.val : Int) 31 = (k.val : Int) % 32 := by decide +kernel
  exact h ⟨n, by omega⟩
set_option maxHeartbeats 4000000 in
theorem head_beg (c m i : Int) (hm : c / 32 = m) (HA : bits .and .u8 c 31 = i) (hm0 : 0 ≤ m) (hm7 : m ≤ 7) (hi0 : 0 ≤ i) (hi1 : i < 32) (q : HQ) (w : World) (g : Nat) (hg : Blk w g 43 (hcells q)) :
    Calls Try.prog 26 #[.pointer (some ⟨g, 0, none⟩), .int .u8 c] w fun e w' => e = .returned (.tuple #[]) ∧ Blk w' g 43 (hcells (hbeg m i)) ∧ Only g w w' := by
  have HS := Lib.hid (run_store_all (P := Try.prog) (ty := 43) (c' := hcells ⟨m, 0, 0, 0, true, 0⟩) hg (by kernel_rfl) rfl (hcells_one _))
  have B1 := hg.setRow (hcells ⟨m, 0, 0, 0, true, 0⟩)
  have O1 := Lib.hid ((Only.refl g w).setRow (hcells ⟨m, 0, 0, 0, true, 0⟩))
  generalize w.setRow g (hcells ⟨m, 0, 0, 0, true, 0⟩) = w1 at *
  obtain ⟨c0, c1, c2, c3, c4, c5, fz⟩ := hblk B1
  have f1 := fz 1
  have f2 := fz 2
  have f3 := fz 3
  have f5 := fz 5
  have HB1 := Lib.hid B1
  clear fz hg B1
  by_cases hs : i < 24
  · have e1 : hbeg m i = ⟨m, 0, i, 0, true, 0⟩ := by unfold hbeg; rw [if_neg (by omega), if_pos hs]
    rw [e1]
    clear e1
    go_enter Try.func26, Try.ntmps26
    go_wp2_with ((with_reducible refine is_store 43 rfl ?_); (with_reducible refine wpList_store_run rfl rfl HS.out ?_ ?_ ?_); (· rfl); (· rfl))
    go_end0
    exact ⟨rfl, HB1.out.put 2 (.int .u64 i), O1.out.put 2 _⟩
  by_cases h28 : 28 ≤ i
  · by_cases h31 : i = 31
    · subst h31
      by_cases hm25 : 2 ≤ m ∧ m ≤ 5
      · have e1 : hbeg m 31 = ⟨m, 0, 0, 0, true, 5⟩ := by unfold hbeg hbad; rw [if_pos (by decide), if_neg (by decide), if_pos ⟨rfl, hm25⟩]
        obtain ⟨hm2, hm5⟩ := hm25
        rw [e1]
        clear e1
        go_enter Try.func26, Try.ntmps26
        go_wp2_with ((with_reducible refine is_store 43 rfl ?_); (with_reducible refine wpList_store_run rfl rfl HS.out ?_ ?_ ?_); (· rfl); (· rfl))
        (try simp only [Exit.inBlock, Exit.then])
        refine bodyPost_ret (results_none rfl _ _ _) rfl ?_
        exact ⟨rfl, HB1.out.put 5 (.int .i64 5), O1.out.put 5 _⟩
      · have e1 : hbeg m 31 = ⟨m, 0, 0, 0, true, 2⟩ := by unfold hbeg hbad; rw [if_pos (by decide), if_neg (by decide), if_neg (fun h => hm25 h.2)]
        rw [e1]
        clear e1
        by_cases hm2 : 2 ≤ m
        · have hm5 : ¬ m ≤ 5 := fun h => hm25 ⟨hm2, h⟩
          clear hm25
          go_enter Try.func26, Try.ntmps26
          go_wp2_with ((with_reducible refine is_store 43 rfl ?_); (with_reducible refine wpList_store_run rfl rfl HS.out ?_ ?_ ?_); (· rfl); (· rfl))
          go_end0
          exact ⟨rfl, HB1.out.put 5 (.int .i64 2), O1.out.put 5 _⟩
        · clear hm25
          go_enter Try.func26, Try.ntmps26
          go_wp2_with ((with_reducible refine is_store 43 rfl ?_); (with_reducible refine wpList_store_run rfl rfl HS.out ?_ ?_ ?_); (· rfl); (· rfl))
          go_end0
          exact ⟨rfl, HB1.out.put 5 (.int .i64 2), O1.out.put 5 _⟩
    · have e1 : hbeg m i = ⟨m, 0, 0, 0, true, 2⟩ := by unfold hbeg hbad; rw [if_pos h28, if_neg (by omega), if_neg (fun h => h31 h.1)]
      rw [e1]
      clear e1
      have h3 : i = 28 ∨ i = 29 ∨ i = 30 := by omega
      clear h28 h31 hs
      rcases h3 with rfl | rfl | rfl
      all_goals
        go_enter Try.func26, Try.ntmps26
        go_wp2_with ((with_reducible refine is_store 43 rfl ?_); (with_reducible refine wpList_store_run rfl rfl HS.out ?_ ?_ ?_); (· rfl); (· rfl))
        go_end0
        exact ⟨rfl, HB1.out.put 5 (.int .i64 2), O1.out.put 5 _⟩
  · rcases hwid_of i (by omega) (by omega) with ⟨rfl, hw⟩ | ⟨rfl, hw⟩ | ⟨rfl, hw⟩ | ⟨rfl, hw⟩
    · have e1 : hbeg m 24 = ⟨m, 1, 0, 1, true, 0⟩ := rfl
      rw [e1]
      clear e1 hw hs h28
      go_enter Try.func26, Try.ntmps26
      go_wp2_with ((with_reducible refine is_store 43 rfl ?_); (with_reducible refine wpList_store_run rfl rfl HS.out ?_ ?_ ?_); (· rfl); (· rfl))
      go_end0
      exact ⟨rfl, (HB1.out.put 1 (.int .i64 1)).put 3 (.int .i64 1), (O1.out.put 1 _).put 3 _⟩
    · have e1 : hbeg m 25 = ⟨m, 2, 0, 2, true, 0⟩ := rfl
      rw [e1]
      clear e1 hw hs h28
      go_enter Try.func26, Try.ntmps26
      go_wp2_with ((with_reducible refine is_store 43 rfl ?_); (with_reducible refine wpList_store_run rfl rfl HS.out ?_ ?_ ?_); (· rfl); (· rfl))
      go_end0
      exact ⟨rfl, (HB1.out.put 1 (.int .i64 2)).put 3 (.int .i64 2), (O1.out.put 1 _).put 3 _⟩
    · have e1 : hbeg m 26 = ⟨m, 4, 0, 4, true, 0⟩ := rfl
      rw [e1]
      clear e1 hw hs h28
      go_enter Try.func26, Try.ntmps26
      go_wp2_with ((with_reducible refine is_store 43 rfl ?_); (with_reducible refine wpList_store_run rfl rfl HS.out ?_ ?_ ?_); (· rfl); (· rfl))
      go_end0
      exact ⟨rfl, (HB1.out.put 1 (.int .i64 4)).put 3 (.int .i64 4), (O1.out.put 1 _).put 3 _⟩
    · have e1 : hbeg m 27 = ⟨m, 8, 0, 8, true, 0⟩ := rfl
      rw [e1]
      clear e1 hw hs h28
      go_enter Try.func26, Try.ntmps26
      go_wp2_with ((with_reducible refine is_store 43 rfl ?_); (with_reducible refine wpList_store_run rfl rfl HS.out ?_ ?_ ?_); (· rfl); (· rfl))
      go_end0
      exact ⟨rfl, (HB1.out.put 1 (.int .i64 8)).put 3 (.int .i64 8), (O1.out.put 1 _).put 3 _⟩
theorem head_begin (c : Int) (h0 : 0 ≤ c) (h1 : c < 256) (q : HQ) (w : World) (g : Nat) (hg : Blk w g 43 (hcells q)) :
    Calls Try.prog 26 #[.pointer (some ⟨g, 0, none⟩), .int .u8 c] w fun e w' => e = .returned (.tuple #[]) ∧ Blk w' g 43 (hcells (hbegin c)) ∧ Only g w w' :=
  head_beg c (c / 32) (c % 32) rfl (and31 c h0 h1) (by omega) (by omega) (by omega) (by omega) q w g hg

set_option maxHeartbeats 1000000 in
theorem head_follow (c : Int) (h0 : 0 ≤ c) (h1 : c < 256) (q : HQ) (hok : HOk q) (hl : 0 < q.left) (w : World) (g : Nat) (hg : Blk w g 43 (hcells q)) :
    Calls Try.prog 25 #[.pointer (some ⟨g, 0, none⟩), .int .u8 c] w fun e w' => e = .returned (.tuple #[]) ∧ Blk w' g 43 (hcells (hfollow q c)) ∧ Only g w w' := by
  obtain ⟨m, W, a, l, o, e⟩ := q
  obtain ⟨ha0, ha1, hl0, hl8⟩ := hok
  dsimp only at ha0 ha1 hl0 hl8 hl
  obtain ⟨c0, c1, c2, c3, c4, c5, fz⟩ := hblk hg
  have f2 := fz 2
  have f3 := fz 3
  have f5 := fz 5
  clear fz
  have HO := or_step64 a c ha0 ⟨h0, h1⟩
  rw [← IntKind.wrap_u64] at HO
  have hb0 : 0 ≤ (a * 256 + c) % 18446744073709551616 := Int.emod_nonneg _ (by decide)
  have hb1 : (a * 256 + c) % 18446744073709551616 < 18446744073709551616 := Int.emod_lt_of_pos _ (by decide)
  have HB := Lib.hid hg
  unfold hfollow
  dsimp only
  generalize (a * 256 + c) % 18446744073709551616 = x at *
  clear hg
  by_cases hm : m = 7
  · subst hm
    by_cases hW : W = 1
    · subst hW
      by_cases hx : x < 32
      · rw [if_pos ⟨rfl, rfl, hx⟩]
        go_enter Try.func25, Try.ntmps25
        go_wp2_with fail
        go_end0
        exact ⟨rfl, ((HB.out.put 2 (.int .u64 x)).put 3 (.int .i64 (l - 1))).put 5 (.int .i64 2), (((Only.refl g w).put 2 _).put 3 _).put 5 _⟩
      · rw [if_neg (fun h => hx h.2.2)]
        go_enter Try.func25, Try.ntmps25
        go_wp2_with fail
        go_end0
        exact ⟨rfl, (HB.out.put 2 (.int .u64 x)).put 3 (.int .i64 (l - 1)), ((Only.refl g w).put 2 _).put 3 _⟩
    · rw [if_neg (fun h => hW h.2.1)]
      go_enter Try.func25, Try.ntmps25
      go_wp2_with fail
      go_end0
      exact ⟨rfl, (HB.out.put 2 (.int .u64 x)).put 3 (.int .i64 (l - 1)), ((Only.refl g w).put 2 _).put 3 _⟩
  · rw [if_neg (fun h => hm h.1)]
    go_enter Try.func25, Try.ntmps25
    go_wp2_with fail
    go_end0
    exact ⟨rfl, (HB.out.put 2 (.int .u64 x)).put 3 (.int .i64 (l - 1)), ((Only.refl g w).put 2 _).put 3 _⟩

end Go.Proofs.Ytimmgajeflghlaa
