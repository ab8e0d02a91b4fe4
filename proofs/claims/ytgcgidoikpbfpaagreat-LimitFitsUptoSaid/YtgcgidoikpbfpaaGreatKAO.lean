/- Package head: the bytes of a head. -/
import Derived.Test.YtgcgidoikpbfpaaGreatKAM
import Derived.Test.YtgcgidoikpbfpaaGreatKAN
import Derived.Deep.RegionHeld3
namespace Go.Proofs.YtgcgidoikpbfpaaGreat
open Go.RowKit

theorem head_info (W : Int) (hW : W = 1 ∨ W = 2 ∨ W = 4 ∨ W = 8) (w : World) :
    Calls Tryz.prog 83 #[.int .i64 W] w fun e w' => e = .returned (.int .u8 (hinf W 0)) ∧ w' = w := by
  go_enter Tryz.func83, Tryz.ntmps83
  go_wp2
  go_loop [0, 3] (fun x y => ∃ k : Int, (k = 1 ∨ k = 2 ∨ k = 4 ∨ k = 8) ∧ k ≤ W ∧ x = .int .i64 k ∧ y = .int .u8 (24 + (hinf W 0 - hinf k 0))) (fun x _ => (intOf x).toNat)
  case atStart => exact ⟨W, hW, Int.le_refl _, rfl, by simp⟩
  case round =>
    obtain ⟨k, hk, hkW, rfl, rfl⟩ := hrel
    rcases hW with rfl | rfl | rfl | rfl <;> rcases hk with rfl | rfl | rfl | rfl <;> first
      | (exfalso; omega)
      | (go_wp2
         go_ret
         exact ⟨rfl, rfl⟩)
      | (go_wp2
         go_round
         case rel => exact ⟨_, by first | exact Or.inl rfl | exact Or.inr (Or.inl rfl) | exact Or.inr (Or.inr (Or.inl rfl)), by decide, rfl, rfl⟩
         case measure => decide)
theorem or_first (m x : Int) (hm0 : 0 ≤ m) (hm7 : m ≤ 7) (hx0 : 0 ≤ x) (hx1 : x < 32) : bits .or .u8 (m * 32) x = m * 32 + x := by
  obtain ⟨k, rfl⟩ := Int.eq_ofNat_of_zero_le hm0
  obtain ⟨y, rfl⟩ := Int.eq_ofNat_of_zero_le hx0
  have h : ∀ (k : Fin 8) (y : Fin 32), bits .or .u8 ((k.val : Int) * 32) (y.val : Int) = (k.val : Int) * 32 + (y.val : Int) := by decide +kernel
  exact h ⟨k, by omega⟩ ⟨y, by omega⟩
theorem take_le (n k : Nat) (a : Int) (h : k ≤ n) : (le n a).take k = le k a := by
  simp only [le, ← List.map_take, List.take_range, Nat.min_eq_left h]
theorem drop_rle (k : Nat) (a : Int) (h : k ≤ 8) : (le 8 a).reverse.drop (8 - k) = (le k a).reverse := by
  rw [List.drop_reverse, length_le, show 8 - (8 - k) = k by omega, take_le 8 k a h]
set_option maxHeartbeats 1000000 in
theorem head_lay0 (m a : Int) (hm0 : 0 ≤ m) (hm7 : m ≤ 7) (h0 : 0 ≤ a) (h1 : a < 24) (w : World) :
    Calls Tryz.prog 60 #[.int .i64 m, .int .u64 a, .int .i64 0] w fun e w' => ∃ v, e = .returned v ∧ Own w' w.heap.size .u8 5 v (hlay m 0 a) ∧ Below w.heap.size w w' := by
  have HO := or_first m a hm0 hm7 h0 (by omega)
  have e : hlay m 0 a = [m * 32 + a] := rfl
  rw [e]
  clear e
  have hx : m * 32 + a < 256 := by omega
  generalize m * 32 + a = x at *
  go_enter Tryz.func60, Tryz.ntmps60
  go_wp2_with fail
  go_ret
  exact ⟨_, rfl, own_cells w _ [x] (by simp), below_alloc _ _⟩
theorem lay_run {w w2 : World} {g : Nat} {x : Int} {Z Y : List Int} {k : Nat} (o : Nat) (ho : o = 8 - k) (s2 : Below w.heap.size w w2) (b2 : Blk w2 g 5 (nums .u8 Z)) (hZ : Z.length = 8) (hk : k ≤ 8) (hk0 : 0 < k) (hd : Z.drop (8 - k) = Y) :
    ∃ v3 w3, (Builtin.append_ #[50, 50] 50 #[.slice (some ⟨w2.heap.size, 0, none⟩) 1 1, .slice (some ⟨g, o, none⟩) k k]).run Tryz.prog (w2.alloc (.cells #[.int .u8 x] 5)).drew = .ok v3 w3 ∧ Own w3 w.heap.size .u8 5 v3 (x :: Y) ∧ Below w.heap.size w w3 := by
  subst hd ho
  have o1 : Own (w2.alloc (.cells #[.int .u8 x] 5)).drew w.heap.size .u8 5 (.slice (some ⟨w2.heap.size, 0, none⟩) 1 1) [x] :=
    (Own.ofBlk (Blk.fresh w2 5 (nums .u8 [x])) s2.size (by unfold maxLen; simp)).drew
  have r1 : Rd (w2.alloc (.cells #[.int .u8 x] 5)).drew (w2.alloc (.cells #[.int .u8 x] 5)).drew.heap.size .u8 (some ⟨g, 8 - k, none⟩) (Z.drop (8 - k)) := by
    have := (b2.alloc (.cells #[.int .u8 x] 5)).drew.rd.cut (8 - k) 8 (by omega)
    have e : cutA (some ⟨g, 0, none⟩) (8 - k) 8 = some ⟨g, 8 - k, none⟩ := by
      unfold cutA
      rw [if_neg (by omega)]
      show some ((⟨g, 0, none⟩ : Addr).add (8 - k)) = _
      rw [Addr.add_mid, Nat.zero_add]
    rwa [e] at this
  have hl : (Z.drop (8 - k)).length = k := by rw [List.length_drop, hZ]; omega
  have hs : w.heap.size ≤ (w2.alloc (.cells #[.int .u8 x] 5)).drew.heap.size := by
    have := s2.size
    show _ ≤ (w2.heap.push _).size
    simp
    omega
  obtain ⟨v3, w3, hr3, o3, hb3, _⟩ := run_append_nums (P := Tryz.prog) (ty := 50) (xs := Z.drop (8 - k)) (cap := k) Tryz.underlying50 hinfo1 (by decide) o1 r1 (fun h => by cases h) (by rw [hl]; simp; omega) hs
  rw [hl] at hr3
  exact ⟨v3, w3, hr3, o3, (below_drawn (s2.alloc s2.size _)).trans hb3⟩
set_option maxRecDepth 100000 in
set_option maxHeartbeats 4000000 in
theorem head_lay1 (m a : Int) (hm0 : 0 ≤ m) (hm7 : m ≤ 7) (h0 : 0 ≤ a) (w : World) :
    Calls Tryz.prog 60 #[.int .i64 m, .int .u64 a, .int .i64 1] w fun e w' => ∃ v, e = .returned v ∧ Own w' w.heap.size .u8 5 v (hlay m 1 a) ∧ Below w.heap.size w w' := by
  have HO := or_first m 24 hm0 hm7 (by decide) (by decide)
  have e : hlay m 1 a = (m * 32 + 24) :: (le 1 a).reverse := rfl
  rw [e]
  clear e
  have HI : Hid (∀ w, Calls Tryz.prog 83 #[.int .i64 1] w fun e w' => e = .returned (.int .u8 24) ∧ w' = w) := Lib.hid (fun w => head_info 1 (Or.inl rfl) w)
  have HP := Lib.hid (PutBig64 w a h0)
  have hd := Lib.hid (drop_rle 1 a (by decide))
  have hz := Lib.hid (length_rle 8 a)
  have hx : m * 32 + 24 < 256 := by omega
  generalize m * 32 + 24 = x at *
  generalize (le 8 a).reverse = Z at *
  generalize (le 1 a).reverse = Y at *
  go_enter Tryz.func60, Tryz.ntmps60
  go_wp2_with fail
  refine HP.out.mono ?_
  rintro e w2 ⟨g, rfl, b2, s2⟩
  obtain ⟨v3, w3, hr3, o3, s3⟩ := lay_run (x := x) 7 rfl s2 b2 hz.out (by decide : 1 ≤ 8) (by decide) hd.out
  have HR3 := Lib.hid hr3
  have O3 := Lib.hid o3
  have S3 := Lib.hid s3
  have hsl : ∀ w, (Instr.sliceAt 50 (.slice (some ⟨g, 0, none⟩) 8 8) (some (.int .i64 7)) none none).run Tryz.prog w = .ok (.slice (some ⟨g, 7, none⟩) 1 1) w := fun w => by
    have := run_cut (P := Tryz.prog) Tryz.underlying50 elem_one w (some ⟨g, 0, none⟩) 8 8 7 7 rfl (by decide)
    have e : cutA (some ⟨g, 0, none⟩) 7 8 = some ⟨g, 7, none⟩ := by
      unfold cutA
      rw [if_neg (by decide)]
      show some ((⟨g, 0, none⟩ : Addr).add 7) = _
      rw [Addr.add_mid, Nat.zero_add]
    rwa [e] at this
  have hww : IntKind.i64.wrap 7 = 7 := rfl
  clear hr3 o3 s3 b2 s2 HP hd hz
  go_wp2_with fail
  go_region_held3 (fun _ => True) (trivial) ((first | (refine step_append_run rfl rfl HR3.out rfl rfl ?_) | (refine (HI.out _).mono ?_; rintro e w' ⟨rfl, rfl⟩)))
  all_goals go_wp2_with fail
  all_goals go_ret
  all_goals exact ⟨_, rfl, O3.out, S3.out⟩
set_option maxRecDepth 100000 in
set_option maxHeartbeats 4000000 in
theorem head_lay2 (m a : Int) (hm0 : 0 ≤ m) (hm7 : m ≤ 7) (h0 : 0 ≤ a) (w : World) :
    Calls Tryz.prog 60 #[.int .i64 m, .int .u64 a, .int .i64 2] w fun e w' => ∃ v, e = .returned v ∧ Own w' w.heap.size .u8 5 v (hlay m 2 a) ∧ Below w.heap.size w w' := by
  have HO := or_first m 25 hm0 hm7 (by decide) (by decide)
  have e : hlay m 2 a = (m * 32 + 25) :: (le 2 a).reverse := rfl
  rw [e]
  clear e
  have HI : Hid (∀ w, Calls Tryz.prog 83 #[.int .i64 2] w fun e w' => e = .returned (.int .u8 25) ∧ w' = w) := Lib.hid (fun w => head_info 2 (Or.inr (Or.inl rfl)) w)
  have HP := Lib.hid (PutBig64 w a h0)
  have hd := Lib.hid (drop_rle 2 a (by decide))
  have hz := Lib.hid (length_rle 8 a)
  have hx : m * 32 + 25 < 256 := by omega
  generalize m * 32 + 25 = x at *
  generalize (le 8 a).reverse = Z at *
  generalize (le 2 a).reverse = Y at *
  go_enter Tryz.func60, Tryz.ntmps60
  go_wp2_with fail
  refine HP.out.mono ?_
  rintro e w2 ⟨g, rfl, b2, s2⟩
  obtain ⟨v3, w3, hr3, o3, s3⟩ := lay_run (x := x) 6 rfl s2 b2 hz.out (by decide : 2 ≤ 8) (by decide) hd.out
  have HR3 := Lib.hid hr3
  have O3 := Lib.hid o3
  have S3 := Lib.hid s3
  have hsl : ∀ w, (Instr.sliceAt 50 (.slice (some ⟨g, 0, none⟩) 8 8) (some (.int .i64 6)) none none).run Tryz.prog w = .ok (.slice (some ⟨g, 6, none⟩) 2 2) w := fun w => by
    have := run_cut (P := Tryz.prog) Tryz.underlying50 elem_one w (some ⟨g, 0, none⟩) 8 8 6 6 rfl (by decide)
    have e : cutA (some ⟨g, 0, none⟩) 6 8 = some ⟨g, 6, none⟩ := by
      unfold cutA
      rw [if_neg (by decide)]
      show some ((⟨g, 0, none⟩ : Addr).add 6) = _
      rw [Addr.add_mid, Nat.zero_add]
    rwa [e] at this
  have hww : IntKind.i64.wrap 6 = 6 := rfl
  clear hr3 o3 s3 b2 s2 HP hd hz
  go_wp2_with fail
  go_region_held3 (fun _ => True) (trivial) ((first | (refine step_append_run rfl rfl HR3.out rfl rfl ?_) | (refine (HI.out _).mono ?_; rintro e w' ⟨rfl, rfl⟩)))
  all_goals go_wp2_with fail
  all_goals go_ret
  all_goals exact ⟨_, rfl, O3.out, S3.out⟩
set_option maxRecDepth 100000 in
set_option maxHeartbeats 4000000 in
theorem head_lay4 (m a : Int) (hm0 : 0 ≤ m) (hm7 : m ≤ 7) (h0 : 0 ≤ a) (w : World) :
    Calls Tryz.prog 60 #[.int .i64 m, .int .u64 a, .int .i64 4] w fun e w' => ∃ v, e = .returned v ∧ Own w' w.heap.size .u8 5 v (hlay m 4 a) ∧ Below w.heap.size w w' := by
  have HO := or_first m 26 hm0 hm7 (by decide) (by decide)
  have e : hlay m 4 a = (m * 32 + 26) :: (le 4 a).reverse := rfl
  rw [e]
  clear e
  have HI : Hid (∀ w, Calls Tryz.prog 83 #[.int .i64 4] w fun e w' => e = .returned (.int .u8 26) ∧ w' = w) := Lib.hid (fun w => head_info 4 (Or.inr (Or.inr (Or.inl rfl))) w)
  have HP := Lib.hid (PutBig64 w a h0)
  have hd := Lib.hid (drop_rle 4 a (by decide))
  have hz := Lib.hid (length_rle 8 a)
  have hx : m * 32 + 26 < 256 := by omega
  generalize m * 32 + 26 = x at *
  generalize (le 8 a).reverse = Z at *
  generalize (le 4 a).reverse = Y at *
  go_enter Tryz.func60, Tryz.ntmps60
  go_wp2_with fail
  refine HP.out.mono ?_
  rintro e w2 ⟨g, rfl, b2, s2⟩
  obtain ⟨v3, w3, hr3, o3, s3⟩ := lay_run (x := x) 4 rfl s2 b2 hz.out (by decide : 4 ≤ 8) (by decide) hd.out
  have HR3 := Lib.hid hr3
  have O3 := Lib.hid o3
  have S3 := Lib.hid s3
  have hsl : ∀ w, (Instr.sliceAt 50 (.slice (some ⟨g, 0, none⟩) 8 8) (some (.int .i64 4)) none none).run Tryz.prog w = .ok (.slice (some ⟨g, 4, none⟩) 4 4) w := fun w => by
    have := run_cut (P := Tryz.prog) Tryz.underlying50 elem_one w (some ⟨g, 0, none⟩) 8 8 4 4 rfl (by decide)
    have e : cutA (some ⟨g, 0, none⟩) 4 8 = some ⟨g, 4, none⟩ := by
      unfold cutA
      rw [if_neg (by decide)]
      show some ((⟨g, 0, none⟩ : Addr).add 4) = _
      rw [Addr.add_mid, Nat.zero_add]
    rwa [e] at this
  have hww : IntKind.i64.wrap 4 = 4 := rfl
  clear hr3 o3 s3 b2 s2 HP hd hz
  go_wp2_with fail
  go_region_held3 (fun _ => True) (trivial) ((first | (refine step_append_run rfl rfl HR3.out rfl rfl ?_) | (refine (HI.out _).mono ?_; rintro e w' ⟨rfl, rfl⟩)))
  all_goals go_wp2_with fail
  all_goals go_ret
  all_goals exact ⟨_, rfl, O3.out, S3.out⟩
set_option maxRecDepth 100000 in
set_option maxHeartbeats 4000000 in
theorem head_lay8 (m a : Int) (hm0 : 0 ≤ m) (hm7 : m ≤ 7) (h0 : 0 ≤ a) (w : World) :
    Calls Tryz.prog 60 #[.int .i64 m, .int .u64 a, .int .i64 8] w fun e w' => ∃ v, e = .returned v ∧ Own w' w.heap.size .u8 5 v (hlay m 8 a) ∧ Below w.heap.size w w' := by
  have HO := or_first m 27 hm0 hm7 (by decide) (by decide)
  have e : hlay m 8 a = (m * 32 + 27) :: (le 8 a).reverse := rfl
  rw [e]
  clear e
  have HI : Hid (∀ w, Calls Tryz.prog 83 #[.int .i64 8] w fun e w' => e = .returned (.int .u8 27) ∧ w' = w) := Lib.hid (fun w => head_info 8 (Or.inr (Or.inr (Or.inr rfl))) w)
  have HP := Lib.hid (PutBig64 w a h0)
  have hd := Lib.hid (drop_rle 8 a (by decide))
  have hz := Lib.hid (length_rle 8 a)
  have hx : m * 32 + 27 < 256 := by omega
  generalize m * 32 + 27 = x at *
  generalize (le 8 a).reverse = Z at *
  generalize (le 8 a).reverse = Y at *
  go_enter Tryz.func60, Tryz.ntmps60
  go_wp2_with fail
  refine HP.out.mono ?_
  rintro e w2 ⟨g, rfl, b2, s2⟩
  obtain ⟨v3, w3, hr3, o3, s3⟩ := lay_run (x := x) 0 rfl s2 b2 hz.out (by decide : 8 ≤ 8) (by decide) hd.out
  have HR3 := Lib.hid hr3
  have O3 := Lib.hid o3
  have S3 := Lib.hid s3
  have hsl : ∀ w, (Instr.sliceAt 50 (.slice (some ⟨g, 0, none⟩) 8 8) (some (.int .i64 0)) none none).run Tryz.prog w = .ok (.slice (some ⟨g, 0, none⟩) 8 8) w := fun w => by
    have := run_cut (P := Tryz.prog) Tryz.underlying50 elem_one w (some ⟨g, 0, none⟩) 8 8 0 0 rfl (by decide)
    have e : cutA (some ⟨g, 0, none⟩) 0 8 = some ⟨g, 0, none⟩ := by
      unfold cutA
      rw [if_neg (by decide)]
      show some ((⟨g, 0, none⟩ : Addr).add 0) = _
      rw [Addr.add_mid, Nat.zero_add]
    rwa [e] at this
  have hww : IntKind.i64.wrap 0 = 0 := rfl
  clear hr3 o3 s3 b2 s2 HP hd hz
  go_wp2_with fail
  go_region_held3 (fun _ => True) (trivial) ((first | (refine step_append_run rfl rfl HR3.out rfl rfl ?_) | (refine (HI.out _).mono ?_; rintro e w' ⟨rfl, rfl⟩)))
  all_goals go_wp2_with fail
  all_goals go_ret
  all_goals exact ⟨_, rfl, O3.out, S3.out⟩
end Go.Proofs.YtgcgidoikpbfpaaGreat

/- Package head: Put, PutFloat; the document's. -/
namespace Go.Proofs.YtgcgidoikpbfpaaGreat
open Go.RowKit

theorem Own.base {w : World} {B B' : Nat} {k : IntKind} {e : TypeId} {v : Value} {zs : List Int} (h : Own w B k e v zs) (hB : B' ≤ B) : Own w B' k e v zs :=
  ⟨h.1, h.2.imp id fun ⟨g, cap, cur, h1, h2, h3⟩ => ⟨g, cap, cur, h1, Nat.le_trans hB h2, h3⟩⟩
def PutPost (w : World) (l : List Int) (e : Ending) (w' : World) : Prop := ∃ v, e = .returned v ∧ Own w' w.heap.size .u8 5 v l ∧ Below w.heap.size w w'
theorem head_lay (m W a : Int) (hm0 : 0 ≤ m) (hm7 : m ≤ 7) (h0 : 0 ≤ a) (hW : (W = 0 ∧ a < 24) ∨ W = 1 ∨ W = 2 ∨ W = 4 ∨ W = 8) (w : World) :
    Calls Tryz.prog 60 #[.int .i64 m, .int .u64 a, .int .i64 W] w fun e w' => PutPost w (hlay m W a) e w' := by
  rcases hW with ⟨rfl, h⟩ | rfl | rfl | rfl | rfl
  · exact head_lay0 m a hm0 hm7 h0 h w
  · exact head_lay1 m a hm0 hm7 h0 w
  · exact head_lay2 m a hm0 hm7 h0 w
  · exact head_lay4 m a hm0 hm7 h0 w
  · exact head_lay8 m a hm0 hm7 h0 w
theorem leastW_in (a : Int) : (leastW a = 0 ∧ a < 24) ∨ leastW a = 1 ∨ leastW a = 2 ∨ leastW a = 4 ∨ leastW a = 8 := by
  unfold leastW
  (repeat' split) <;> simp <;> omega
set_option maxHeartbeats 1000000 in
theorem head_Put (M m a : Int) (hM : M % 8 = m) (h0 : 0 ≤ a) (h1 : a < 18446744073709551616) (w : World) :
    Calls Tryz.prog 52 #[.int .i64 M, .int .u64 a] w fun e w' => PutPost w (hputL m a) e w' := by
  have HA : bits .and .i64 M 7 = m := by rw [← hM]; exact and_mask M 3 (by decide)
  have hm0 : 0 ≤ m := by omega
  have hm7 : m ≤ 7 := by omega
  by_cases h7 : m = 7 ∧ 24 ≤ a ∧ (a < 32 ∨ 255 < a)
  · have e : hputL m a = [] := by unfold hputL; rw [if_pos h7]
    rw [e]
    obtain ⟨rfl, h24, hh⟩ := h7
    clear e hM
    by_cases h255 : 255 < a
    · clear hh
      go_enter Tryz.func52, Tryz.ntmps52
      go_wp2_with fail
      go_ret
      exact ⟨_, rfl, Own.nil _ _ _ _, Below.refl _ _⟩
    · have h32 : a < 32 := by omega
      clear hh
      go_enter Tryz.func52, Tryz.ntmps52
      go_wp2_with fail
      go_ret
      exact ⟨_, rfl, Own.nil _ _ _ _, Below.refl _ _⟩
  · have e : hputL m a = hlay m (leastW a) a := by unfold hputL; rw [if_neg h7]
    rw [e]
    clear e
    have HL := Lib.hid (head_least a h0 h1)
    have HP := Lib.hid (head_lay m (leastW a) a hm0 hm7 h0 (leastW_in a))
    generalize leastW a = W at *
    generalize hlay m W a = l at *
    by_cases hm : m = 7
    · subst hm
      by_cases h24 : 24 ≤ a
      · have h32 : 32 ≤ a := by omega
        have h255 : a ≤ 255 := by omega
        clear h7 hM
        go_enter Tryz.func52, Tryz.ntmps52
        go_wp2_with (go_at_call 61; with_reducible refine (HL.out _).mono ?_; rintro e w' ⟨rfl, rfl⟩)
        refine (HP.out _).mono ?_
        rintro e w' ⟨v, rfl, o, s⟩
        go_wp2_with fail
        go_ret
        exact ⟨_, rfl, o, s⟩
      · clear h7 hM
        go_enter Tryz.func52, Tryz.ntmps52
        go_wp2_with (go_at_call 61; with_reducible refine (HL.out _).mono ?_; rintro e w' ⟨rfl, rfl⟩)
        refine (HP.out _).mono ?_
        rintro e w' ⟨v, rfl, o, s⟩
        go_wp2_with fail
        go_ret
        exact ⟨_, rfl, o, s⟩
    · clear h7 hM
      go_enter Tryz.func52, Tryz.ntmps52
      go_wp2_with (go_at_call 61; with_reducible refine (HL.out _).mono ?_; rintro e w' ⟨rfl, rfl⟩)
      refine (HP.out _).mono ?_
      rintro e w' ⟨v, rfl, o, s⟩
      go_wp2_with fail
      go_ret
      exact ⟨_, rfl, o, s⟩
/-- The bytes of a shortest float's head. -/
def FPost (x : Nat) (w : World) (e : Ending) (w' : World) : Prop := ∃ z k : Nat, Shortest x z k ∧ PutPost w (hlay 7 k z) e w'
theorem sh_wid {x z k : Nat} (h : Shortest x z k) : k = 2 ∨ k = 4 ∨ k = 8 := by
  rcases h with ⟨_, _, h⟩ | ⟨_, ⟨h, _⟩ | ⟨h, _⟩ | ⟨h, _⟩⟩ <;> omega
set_option maxHeartbeats 1000000 in
theorem head_PutFloat (x : Nat) (hx : x < 2 ^ 64) (w : World) :
    Calls Tryz.prog 53 #[.int .u64 x] w fun e w' => FPost x w e w' := by
  have HS := Lib.hid (float_Shortest x hx)
  have HX := Lib.hid (fun (_ : Unit) => (rfl : x = x))
  clear hx
  generalize hxl : (x : Int) = xl at *
  clear hxl
  go_enter Tryz.func53, Tryz.ntmps53
  go_wp2_with fail
  refine (HS.out _).mono ?_
  rintro e w1 ⟨⟨z, k, rfl, hs⟩, s1⟩
  have hk := sh_wid hs
  have HP := Lib.hid (head_lay 7 k z (by decide) (by decide) (by omega) (by omega))
  have HSS := Lib.hid (fun (_ : Unit) => hs)
  have HS1 := Lib.hid s1
  clear hs hk s1
  generalize hzl : (z : Int) = zl at *
  generalize hkl : (k : Int) = kl at *
  have HZ := Lib.hid (fun (_ : Unit) => And.intro hzl hkl)
  clear hzl hkl
  go_wp2_with fail
  refine (HP.out _).mono ?_
  rintro e w' ⟨v, rfl, o, s⟩
  have HO := Lib.hid (Own.base o HS1.out.size)
  have HSW := Lib.hid (HS1.out.trans (s.mono HS1.out.size))
  clear o s
  go_wp2_with fail
  go_ret
  obtain ⟨hzl, hkl⟩ := HZ.out ()
  exact ⟨z, k, HSS.out (), v, rfl, by rw [hzl, hkl]; exact HO.out, HSW.out⟩
set_option maxHeartbeats 1000000 in
theorem ref_PutFloat (x : Nat) (hx : x < 2 ^ 64) (w : World) :
    Calls Tryz.prog 27 #[.int .u64 x] w fun e w' => FPost x w e w' := by
  have HS := Lib.hid (ref_Shortest x hx)
  have HLt := Lib.hid (fun (_ : Unit) => (fun y v (h : Shortest x y v) => (sh_wd h hx).1))
  clear hx
  generalize hxl : (x : Int) = xl at *
  clear hxl
  go_enter Tryz.func27, Tryz.ntmps27
  go_wp2_with fail
  refine (HS.out _).mono ?_
  rintro e w1 ⟨⟨z, k, rfl, hs⟩, s1⟩
  have hk := sh_wid hs
  have HSS := Lib.hid (fun (_ : Unit) => hs)
  have HS1 := Lib.hid s1
  have hz1 : (z : Int) < 18446744073709551616 := by have := HLt.out () z k hs; omega
  have hz0 : 0 ≤ (z : Int) := by omega
  clear hs s1 HLt
  generalize hzl : (z : Int) = zl at *
  have HZ := Lib.hid (fun (_ : Unit) => hzl)
  clear hzl
  rcases hk with rfl | rfl | rfl
  · have HB := Lib.hid (ref_bytes zl hz0 hz1 2 (by decide))
    have HJ := Lib.hid (fun w2 v => join_run (n := 2) (length_rle 2 zl) (rfl : _ = w1.alloc (.cells #[.int .u8 249] 5)) (w2 := w2) (v := v))
    have HE : Hid (hlay 7 (2 : Nat) zl = 249 :: (le 2 zl).reverse) := Lib.hid rfl
    generalize (le 2 zl).reverse = L at *
    go_wp2_with fail
    refine (HB.out _).mono ?_
    rintro e w2 ⟨v, rfl, O2, S2⟩
    obtain ⟨A, cap, v3, w3, rfl, hr3, o3, s3⟩ := HJ.out w2 v S2 O2 (by decide)
    have HR3 := Lib.hid hr3
    have O3 := Lib.hid (Own.base o3 HS1.out.size)
    have S3 := Lib.hid (HS1.out.trans (s3.mono HS1.out.size))
    clear hr3 O2 S2 HJ HB o3 s3
    go_wp2_with ((with_reducible refine is_append 50 rfl ?_); (with_reducible refine wpList_append_run rfl rfl HR3.out ?_ ?_ ?_); (· rfl); (· rfl))
    go_ret
    exact ⟨z, 2, HSS.out (), v3, rfl, by rw [HZ.out (), HE.out]; exact O3.out, S3.out⟩
  · have HB := Lib.hid (ref_bytes zl hz0 hz1 4 (by decide))
    have HJ := Lib.hid (fun w2 v => join_run (n := 4) (length_rle 4 zl) (rfl : _ = w1.alloc (.cells #[.int .u8 250] 5)) (w2 := w2) (v := v))
    have HE : Hid (hlay 7 (4 : Nat) zl = 250 :: (le 4 zl).reverse) := Lib.hid rfl
    generalize (le 4 zl).reverse = L at *
    go_wp2_with fail
    refine (HB.out _).mono ?_
    rintro e w2 ⟨v, rfl, O2, S2⟩
    obtain ⟨A, cap, v3, w3, rfl, hr3, o3, s3⟩ := HJ.out w2 v S2 O2 (by decide)
    have HR3 := Lib.hid hr3
    have O3 := Lib.hid (Own.base o3 HS1.out.size)
    have S3 := Lib.hid (HS1.out.trans (s3.mono HS1.out.size))
    clear hr3 O2 S2 HJ HB o3 s3
    go_wp2_with ((with_reducible refine is_append 50 rfl ?_); (with_reducible refine wpList_append_run rfl rfl HR3.out ?_ ?_ ?_); (· rfl); (· rfl))
    go_ret
    exact ⟨z, 4, HSS.out (), v3, rfl, by rw [HZ.out (), HE.out]; exact O3.out, S3.out⟩
  · have HB := Lib.hid (ref_bytes zl hz0 hz1 8 (by decide))
    have HJ := Lib.hid (fun w2 v => join_run (n := 8) (length_rle 8 zl) (rfl : _ = w1.alloc (.cells #[.int .u8 251] 5)) (w2 := w2) (v := v))
    have HE : Hid (hlay 7 (8 : Nat) zl = 251 :: (le 8 zl).reverse) := Lib.hid rfl
    generalize (le 8 zl).reverse = L at *
    go_wp2_with fail
    refine (HB.out _).mono ?_
    rintro e w2 ⟨v, rfl, O2, S2⟩
    obtain ⟨A, cap, v3, w3, rfl, hr3, o3, s3⟩ := HJ.out w2 v S2 O2 (by decide)
    have HR3 := Lib.hid hr3
    have O3 := Lib.hid (Own.base o3 HS1.out.size)
    have S3 := Lib.hid (HS1.out.trans (s3.mono HS1.out.size))
    clear hr3 O2 S2 HJ HB o3 s3
    go_wp2_with ((with_reducible refine is_append 50 rfl ?_); (with_reducible refine wpList_append_run rfl rfl HR3.out ?_ ?_ ?_); (· rfl); (· rfl))
    go_ret
    exact ⟨z, 8, HSS.out (), v3, rfl, by rw [HZ.out (), HE.out]; exact O3.out, S3.out⟩
end Go.Proofs.YtgcgidoikpbfpaaGreat
