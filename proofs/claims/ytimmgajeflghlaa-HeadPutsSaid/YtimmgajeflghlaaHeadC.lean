
/- The document's bytes of a number; its heads; the program's. -/
import Derived.Test.YtimmgajeflghlaaHeadP
import Derived.Test.YtimmgajeflghlaaPuts
import Derived.Test.YtimmgajeflghlaaApp
import Derived.Test.YtimmgajeflghlaaList
import Derived.Test.YtimmgajeflghlaaOwnAt
import Derived.Test.YtimmgajeflghlaaMask
import Derived.Test.YtimmgajeflghlaaQTail
namespace Go.Proofs.Ytimmgajeflghlaa
open Go.RowKit

theorem take_le_rev (n : Nat) (x : Int) (k : Nat) (hk : k < n) : (le n x).reverse.take (k + 1) = (le n x).reverse.take k ++ [x / 256 ^ (n - 1 - k) % 256] := by
  rw [List.take_add_one]
  congr 1
  have h1 : k < (le n x).reverse.length := by simp [length_le]; exact hk
  rw [List.getElem?_eq_getElem h1, List.getElem_reverse]
  simp [le]
theorem hinfo1 : (Try.prog.info? 5).map (fun i => (i.zero, i.size, i.bytes)) = some (some (.int .u8 0), 1, 1) := by kernel_rfl
set_option maxRecDepth 100000 in
theorem ref_bytes (x : Int) (hx : 0 ≤ x) (hx' : x < 18446744073709551616) (n : Nat) (hn : n ≤ 8) (w : World) :
    Calls Try.prog 23 #[.int .u64 x, .int .i64 n] w fun e w' => ∃ v, e = .returned v ∧ Own w' w.heap.size .u8 5 v (le n x).reverse ∧ Below w.heap.size w w' := by
  have HT := Lib.hid (take_le_rev n x)
  have HL := Lib.hid (show (le n x).reverse.length = n by simp [length_le])
  have HP : Hid (∀ k : Nat, k < 8 → x / 2 ^ (8 * k) = x / 256 ^ k) := fun k _ => by rw [Int.pow_mul]; rfl
  generalize (le n x).reverse = L at *
  go_enter Try.func23, Try.ntmps23
  go_wp2_with fail
  go_loopw [5, 6] (fun v i wr => ∃ k : Nat, k ≤ n ∧ i = .int .i64 ((n : Int) - 1 - k) ∧ Own wr w.heap.size .u8 5 v (L.take k) ∧ Below w.heap.size w wr) (fun _ i _ => (intOf i + 1).toNat)
  case atStart => exact ⟨0, Nat.zero_le _, by simp, Own.nil _ _ _ _, Below.refl _ _⟩
  case round =>
    obtain ⟨k, hk, rfl, hown, hbl⟩ := hrel
    by_cases hlt : k < n
    · have hT := Lib.hid (HT.out k hlt)
      obtain ⟨j, hj⟩ : ∃ j : Nat, n - 1 - k = j := ⟨_, rfl⟩
      have hj' : (n : Int) - 1 - k = j := by omega
      have hj8 : j < 8 := by omega
      rw [hj] at hT
      rw [hj']
      have hb0 : 0 ≤ x / 256 ^ j % 256 := Int.emod_nonneg _ (by decide)
      have hb1 : x / 256 ^ j % 256 < 256 := Int.emod_lt_of_pos _ (by decide)
      have hp := HP.out j hj8
      generalize x / 256 ^ j = y at *
      generalize hz : y % 256 = z at *
      have hln : (L.take k).length = k := by rw [List.length_take, HL.out]; omega
      obtain ⟨A1, c1, rfl, _, _, _, _, _⟩ := hown.form
      rw [hln] at hown ⊢
      have hgs := hbl.size
      have b2 : Blk (wr.alloc (.cells #[.int .u8 z] 5)) wr.heap.size 5 (nums .u8 [z]) := Blk.fresh wr _ _
      obtain ⟨v3, w3, hr3, o3, hb3, _⟩ := run_append_nums (P := Try.prog) (ty := 22) (xs := [z]) (cap := 1) Try.underlying22 hinfo1 (by decide) (hown.alloc (.cells #[.int .u8 z] 5)) b2.rd (fun h => by cases h) (by simp [hln]; omega) (by show _ ≤ (wr.heap.push _).size; simp; omega)
      rw [← hT.out] at o3
      have HR3 := Lib.hid hr3
      have O3 := Lib.hid o3
      have HB3 := Lib.hid ((hbl.alloc hgs (.cells #[.int .u8 z] 5)).trans hb3)
      clear hr3 o3 hb3 b2 hown
      go_wp2_with ((with_reducible refine is_append 22 rfl ?_); (with_reducible refine wpList_append_run rfl rfl HR3.out ?_ ?_ ?_); (· rfl); (· rfl))
      go_roundw
      case rel => exact ⟨k + 1, by omega, by go_num, O3.out, HB3.out⟩
      case measure => simp [intOf]
    · have hk' : k = n := by omega
      subst hk'
      rw [List.take_of_length_le (by rw [HL.out]; omega)] at hown
      have hend : ¬ (0 : Int) ≤ (k : Int) - 1 - k := by omega
      go_wp2_with fail
      go_ret
      exact ⟨_, rfl, hown, hbl⟩

/-- The head of a major type, a width, an argument. -/
def hinf (W a : Int) : Int := if W = 0 then a else if W = 1 then 24 else if W = 2 then 25 else if W = 4 then 26 else 27
def hlay (m W a : Int) : List Int := (m * 32 + hinf W a) :: (le W.toNat a).reverse
def hputL (m a : Int) : List Int := if m = 7 ∧ 24 ≤ a ∧ (a < 32 ∨ 255 < a) then [] else hlay m (leastW a) a
theorem le_zero (a : Int) : le 0 a = [] := rfl
theorem le_one (a : Int) : le 1 a = [a % 256] := by simp [le, List.range_succ]
theorem own_cells (w : World) (t : TypeId) (zs : List Int) (h : zs.length ≤ 1000) : Own (w.alloc (.cells (nums .u8 zs) t)) w.heap.size .u8 t (.slice (some ⟨w.heap.size, 0, none⟩) zs.length zs.length) zs :=
  Own.ofBlk (Blk.fresh w t _) (Nat.le_refl _) (by unfold maxLen; omega)
/-- One number ahead of others. -/
theorem join_run {w w1 w2 : World} {z : Int} {v : Value} {L : List Int} {n : Nat} (hn : L.length = n) (h1 : w1 = w.alloc (.cells #[.int .u8 z] 5)) (hb : Below w1.heap.size w1 w2) (ho : Own w2 w1.heap.size .u8 5 v L) (hl : n ≤ 1000) :
    ∃ A cap v' w3, v = .slice A n cap ∧ (Builtin.append_ #[22, 22] 22 #[.slice (some ⟨w.heap.size, 0, none⟩) 1 1, .slice A n cap]).run Try.prog w2 = .ok v' w3 ∧ Own w3 w.heap.size .u8 5 v' (z :: L) ∧ Below w.heap.size w w3 := by
  subst h1 hn
  have o1 := (own_cells w 5 [z] (by simp)).below hb
  obtain ⟨A, cap, rfl, _, _, hnil, _, hr⟩ := ho.form
  have hs : w.heap.size ≤ (w.alloc (.cells #[.int .u8 z] 5)).heap.size := by show _ ≤ (w.heap.push _).size; simp
  obtain ⟨v3, w3, hr3, o3, hb3, _⟩ := run_append_nums (P := Try.prog) (ty := 22) (xs := L) (cap := cap) Try.underlying22 hinfo1 (by decide) o1 hr hnil (by simp; omega) (Nat.le_trans hs hb.size)
  exact ⟨A, cap, v3, w3, rfl, hr3, o3, ((below_alloc w _).trans (hb.mono hs)).trans hb3⟩
theorem length_rle (n : Nat) (a : Int) : (le n a).reverse.length = n := by simp [length_le]
set_option maxRecDepth 100000 in
theorem ref_hput (m a : Int) (hm0 : 0 ≤ m) (hm7 : m ≤ 7) (h0 : 0 ≤ a) (h1 : a < 18446744073709551616) (w : World) :
    Calls Try.prog 12 #[.int .i64 m, .int .u64 a] w fun e w' => ∃ v, e = .returned v ∧ Own w' w.heap.size .u8 5 v (hputL m a) ∧ Below w.heap.size w w' := by
  by_cases h24 : a < 24
  · have e : hputL m a = [32 * m + a] := by
      unfold hputL hlay hinf leastW
      rw [if_neg (by omega), if_pos h24, if_pos rfl, Int.mul_comm]
      rfl
    rw [e]
    clear e
    go_enter Try.func12, Try.ntmps12
    go_wp2_with fail
    go_ret
    exact ⟨_, rfl, own_cells w _ [32 * m + a] (by simp), below_alloc _ _⟩
  by_cases h7 : m = 7 ∧ (a < 32 ∨ 255 < a)
  · have e : hputL m a = [] := by unfold hputL; rw [if_pos ⟨h7.1, by omega, h7.2⟩]
    rw [e]
    obtain ⟨rfl, h7⟩ := h7
    clear e
    by_cases h32 : a < 32
    · clear h7
      go_enter Try.func12, Try.ntmps12
      go_wp2_with fail
      go_ret
      exact ⟨_, rfl, Own.nil _ _ _ _, Below.refl _ _⟩
    · have h255 : 255 < a := by omega
      clear h7
      go_enter Try.func12, Try.ntmps12
      go_wp2_with fail
      go_ret
      exact ⟨_, rfl, Own.nil _ _ _ _, Below.refl _ _⟩
  have e0 : hputL m a = hlay m (leastW a) a := by unfold hputL; rw [if_neg (by omega)]
  rw [e0]
  clear e0
  by_cases h256 : a < 256
  · have e : hlay m (leastW a) a = [32 * m + 24, a] := by
      have e1 : leastW a = 1 := by unfold leastW; rw [if_neg h24, if_pos h256]
      rw [e1]
      show [m * 32 + 24, a / 256 ^ 0 % 256] = _
      rw [Int.mul_comm, Int.pow_zero, Int.ediv_one, Int.emod_eq_of_lt h0 h256]
    rw [e]
    clear e
    by_cases hm : m = 7
    · subst hm
      have h32 : ¬ a < 32 := by omega
      have h255 : ¬ 255 < a := by omega
      clear h7
      go_enter Try.func12, Try.ntmps12
      go_wp2_with fail
      go_ret
      exact ⟨_, rfl, own_cells w _ [248, a] (by simp), below_alloc _ _⟩
    · clear h7
      go_enter Try.func12, Try.ntmps12
      go_wp2_with fail
      go_ret
      exact ⟨_, rfl, own_cells w _ [32 * m + 24, a] (by simp), below_alloc _ _⟩
  have hm : m ≠ 7 := by omega
  clear h7
  by_cases h2 : a < 65536
  · have e : hlay m (leastW a) a = (32 * m + 25) :: (le 2 a).reverse := by
      have e1 : leastW a = 2 := by unfold leastW; rw [if_neg h24, if_neg h256, if_pos h2]
      rw [e1, Int.mul_comm]
      rfl
    rw [e]
    clear e
    have HB := Lib.hid (ref_bytes a h0 h1 2 (by decide))
    have HJ := fun w2 v => join_run (n := 2) (length_rle 2 a) (rfl : _ = w.alloc (.cells #[.int .u8 (32 * m + 25)] 5)) (w2 := w2) (v := v)
    generalize (le 2 a).reverse = L at *
    go_enter Try.func12, Try.ntmps12
    go_wp2_with fail
    refine (HB.out _).mono ?_
    rintro e w2 ⟨v, rfl, O2, S2⟩
    obtain ⟨A, cap, v3, w3, rfl, hr3, o3, s3⟩ := HJ w2 v S2 O2 (by decide)
    have HR3 := Lib.hid hr3
    clear hr3 O2 S2 HJ HB
    go_wp2_with ((with_reducible refine is_append 22 rfl ?_); (with_reducible refine wpList_append_run rfl rfl HR3.out ?_ ?_ ?_); (· rfl); (· rfl))
    go_ret
    exact ⟨_, rfl, o3, s3⟩
  by_cases h4 : a < 4294967296
  · have e : hlay m (leastW a) a = (32 * m + 26) :: (le 4 a).reverse := by
      have e1 : leastW a = 4 := by unfold leastW; rw [if_neg h24, if_neg h256, if_neg h2, if_pos h4]
      rw [e1, Int.mul_comm]
      rfl
    rw [e]
    clear e
    have HB := Lib.hid (ref_bytes a h0 h1 4 (by decide))
    have HJ := fun w2 v => join_run (n := 4) (length_rle 4 a) (rfl : _ = w.alloc (.cells #[.int .u8 (32 * m + 26)] 5)) (w2 := w2) (v := v)
    generalize (le 4 a).reverse = L at *
    go_enter Try.func12, Try.ntmps12
    go_wp2_with fail
    refine (HB.out _).mono ?_
    rintro e w2 ⟨v, rfl, O2, S2⟩
    obtain ⟨A, cap, v3, w3, rfl, hr3, o3, s3⟩ := HJ w2 v S2 O2 (by decide)
    have HR3 := Lib.hid hr3
    clear hr3 O2 S2 HJ HB
    go_wp2_with ((with_reducible refine is_append 22 rfl ?_); (with_reducible refine wpList_append_run rfl rfl HR3.out ?_ ?_ ?_); (· rfl); (· rfl))
    go_ret
    exact ⟨_, rfl, o3, s3⟩
  · have e : hlay m (leastW a) a = (32 * m + 27) :: (le 8 a).reverse := by
      have e1 : leastW a = 8 := by unfold leastW; rw [if_neg h24, if_neg h256, if_neg h2, if_neg h4]
      rw [e1, Int.mul_comm]
      rfl
    rw [e]
    clear e
    have HB := Lib.hid (ref_bytes a h0 h1 8 (by decide))
    have HJ := fun w2 v => join_run (n := 8) (length_rle 8 a) (rfl : _ = w.alloc (.cells #[.int .u8 (32 * m + 27)] 5)) (w2 := w2) (v := v)
    generalize (le 8 a).reverse = L at *
    go_enter Try.func12, Try.ntmps12
    go_wp2_with fail
    refine (HB.out _).mono ?_
    rintro e w2 ⟨v, rfl, O2, S2⟩
    obtain ⟨A, cap, v3, w3, rfl, hr3, o3, s3⟩ := HJ w2 v S2 O2 (by decide)
    have HR3 := Lib.hid hr3
    clear hr3 O2 S2 HJ HB
    go_wp2_with ((with_reducible refine is_append 22 rfl ?_); (with_reducible refine wpList_append_run rfl rfl HR3.out ?_ ?_ ?_); (· rfl); (· rfl))
    go_ret
    exact ⟨_, rfl, o3, s3⟩
end Go.Proofs.Ytimmgajeflghlaa
