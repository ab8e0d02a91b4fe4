
/- Package head: Put, PutFloat; the document's. -/
import Derived.Test.YtimmgajeflghlaaHeadG
namespace Go.Proofs.Ytimmgajeflghlaa
open Go.RowKit

theorem Own.base {w : World} {B B' : Nat} {k : IntKind} {e : TypeId} {v : Value} {zs : List Int} (h : Own w B k e v zs) (hB : B' ≤ B) : Own w B' k e v zs :=
  ⟨h.1, h.2.imp id fun ⟨g, cap, cur, h1, h2, h3⟩ => ⟨g, cap, cur, h1, Nat.le_trans hB h2, h3⟩⟩
def PutPost (w : World) (l : List Int) (e : Ending) (w' : World) : Prop := ∃ v, e = .returned v ∧ Own w' w.heap.size .u8 5 v l ∧ Below w.heap.size w w'
theorem head_lay (m W a : Int) (hm0 : 0 ≤ m) (hm7 : m ≤ 7) (h0 : 0 ≤ a) (hW : (W = 0 ∧ a < 24) ∨ W = 1 ∨ W = 2 ∨ W = 4 ∨ W = 8) (w : World) :
    Calls Try.prog 20 #[.int .i64 m, .int .u64 a, .int .i64 W] w fun e w' => PutPost w (hlay m W a) e w' := by
  rcases hW with ⟨rfl, h⟩ | rfl | rfl | rfl | rfl
  · exact head_lay0 m a hm0 hm7 h0 h w
  · exact head_lay1 m a hm0 hm7 h0 w
  · exact head_lay2 m a hm0 hm7 h0 w
  · exact head_lay4 m a hm0 hm7 h0 w
  · exact head_lay8 m a hm0 hm7 h0 w
theorem leastW_in (a : Int) : (leastW a = 0 ∧ a < 24) ∨ leastW a = 1 ∨ leastW a = 2 ∨ leastW a = 4 ∨ leastW a = 8 := by
  unfold leastW
  (repeat' split) <;> simp <;> omega
set_option maxHeartbeats 1000000 in
theorem head_Put (M m a : Int) (hM : M % 8 = m) (h0 : 0 ≤ a) (h1 : a < 18446744073709551616) (w : World) :
    Calls Try.prog 10 #[.int .i64 M, .int .u64 a] w fun e w' => PutPost w (hputL m a) e w' := by
  have HA : bits .and .i64 M 7 = m := by rw [← hM]; exact and_mask M 3 (by decide)
  have hm0 : 0 ≤ m := by omega
  have hm7 : m ≤ 7 := by omega
  by_cases h7 : m = 7 ∧ 24 ≤ a ∧ (a < 32 ∨ 255 < a)
  · have e : hputL m a = [] := by unfold hputL; rw [if_pos h7]
    rw [e]
    obtain ⟨rfl, h24, hh⟩ := h7
    clear e hM
    by_cases h255 : 255 < a
    · clear hh
      go_enter Try.func10, Try.ntmps10
      go_wp2_with fail
      go_ret
      exact ⟨_, rfl, Own.nil _ _ _ _, Below.refl _ _⟩
    · have h32 : a < 32 := by omega
      clear hh
      go_enter Try.func10, Try.ntmps10
      go_wp2_with fail
      go_ret
      exact ⟨_, rfl, Own.nil _ _ _ _, Below.refl _ _⟩
  · have e : hputL m a = hlay m (leastW a) a := by unfold hputL; rw [if_neg h7]
    rw [e]
    clear e
    have HL := Lib.hid (head_least a h0 h1)
    have HP := Lib.hid (head_lay m (leastW a) a hm0 hm7 h0 (leastW_in a))
    generalize leastW a = W at *
    generalize hlay m W a = l at *
    by_cases hm : m = 7
    · subst hm
      by_cases h24 : 24 ≤ a
      · have h32 : 32 ≤ a := by omega
        have h255 : a ≤ 255 := by omega
        clear h7 hM
        go_enter Try.func10, Try.ntmps10
        go_wp2_with (go_at_call 21; with_reducible refine (HL.out _).mono ?_; rintro e w' ⟨rfl, rfl⟩)
        refine (HP.out _).mono ?_
        rintro e w' ⟨v, rfl, o, s⟩
        go_wp2_with fail
        go_ret
        exact ⟨_, rfl, o, s⟩
      · clear h7 hM
        go_enter Try.func10, Try.ntmps10
        go_wp2_with (go_at_call 21; with_reducible refine (HL.out _).mono ?_; rintro e w' ⟨rfl, rfl⟩)
        refine (HP.out _).mono ?_
        rintro e w' ⟨v, rfl, o, s⟩
        go_wp2_with fail
        go_ret
        exact ⟨_, rfl, o, s⟩
    · clear h7 hM
      go_enter Try.func10, Try.ntmps10
      go_wp2_with (go_at_call 21; with_reducible refine (HL.out _).mono ?_; rintro e w' ⟨rfl, rfl⟩)
      refine (HP.out _).mono ?_
      rintro e w' ⟨v, rfl, o, s⟩
      go_wp2_with fail
      go_ret
      exact ⟨_, rfl, o, s⟩
/-- The bytes of a shortest float's head. -/
def FPost (x : Nat) (w : World) (e : Ending) (w' : World) : Prop := ∃ z k : Nat, Shortest x z k ∧ PutPost w (hlay 7 k z) e w'
theorem sh_wid {x z k : Nat} (h : Shortest x z k) : k = 2 ∨ k = 4 ∨ k = 8 := by
  rcases h with ⟨_, _, h⟩ | ⟨_, ⟨h, _⟩ | ⟨h, _⟩ | ⟨h, _⟩⟩ <;> omega
set_option maxHeartbeats 1000000 in
theorem head_PutFloat (x : Nat) (hx : x < 2 ^ 64) (w : World) :
    Calls Try.prog 11 #[.int .u64 x] w fun e w' => FPost x w e w' := by
  have HS := Lib.hid (float_Shortest x hx)
  have HX := Lib.hid (fun (_ : Unit) => (rfl : x = x))
  clear hx
  generalize hxl : (x : Int) = xl at *
  clear hxl
  go_enter Try.func11, Try.ntmps11
  go_wp2_with fail
  refine (HS.out _).mono ?_
  rintro e w1 ⟨⟨z, k, rfl, hs⟩, s1⟩
  have hk := sh_wid hs
  have HP := Lib.hid (head_lay 7 k z (by decide) (by decide) (by omega) (by omega))
  have HSS := Lib.hid (fun (_ : Unit) => hs)
  have HS1 := Lib.hid s1
  clear hs hk s1
  generalize hzl : (z : Int) = zl at *
  generalize hkl : (k : Int) = kl at *
  have HZ := Lib.hid (fun (_ : Unit) => And.intro hzl hkl)
  clear hzl hkl
  go_wp2_with fail
  refine (HP.out _).mono ?_
  rintro e w' ⟨v, rfl, o, s⟩
  have HO := Lib.hid (Own.base o HS1.out.size)
  have HSW := Lib.hid (HS1.out.trans (s.mono HS1.out.size))
  clear o s
  go_wp2_with fail
  go_ret
  obtain ⟨hzl, hkl⟩ := HZ.out ()
  exact ⟨z, k, HSS.out (), v, rfl, by rw [hzl, hkl]; exact HO.out, HSW.out⟩
set_option maxHeartbeats 1000000 in
theorem ref_PutFloat (x : Nat) (hx : x < 2 ^ 64) (w : World) :
    Calls Try.prog 13 #[.int .u64 x] w fun e w' => FPost x w e w' := by
  have HS := Lib.hid (ref_Shortest x hx)
  have HLt := Lib.hid (fun (_ : Unit) => (fun y v (h : Shortest x y v) => (sh_wd h hx).1))
  clear hx
  generalize hxl : (x : Int) = xl at *
  clear hxl
  go_enter Try.func13, Try.ntmps13
  go_wp2_with fail
  refine (HS.out _).mono ?_
  rintro e w1 ⟨⟨z, k, rfl, hs⟩, s1⟩
  have hk := sh_wid hs
  have HSS := Lib.hid (fun (_ : Unit) => hs)
  have HS1 := Lib.hid s1
  have hz1 : (z : Int) < 18446744073709551616 := by have := HLt.out () z k hs; omega
  have hz0 : 0 ≤ (z : Int) := by omega
  clear hs s1 HLt
  generalize hzl : (z : Int) = zl at *
  have HZ := Lib.hid (fun (_ : Unit) => hzl)
  clear hzl
  rcases hk with rfl | rfl | rfl
  · have HB := Lib.hid (ref_bytes zl hz0 hz1 2 (by decide))
    have HJ := Lib.hid (fun w2 v => join_run (n := 2) (length_rle 2 zl) (rfl : _ = w1.alloc (.cells #[.int .u8 249] 5)) (w2 := w2) (v := v))
    have HE : Hid (hlay 7 (2 : Nat) zl = 249 :: (le 2 zl).reverse) := Lib.hid rfl
    generalize (le 2 zl).reverse = L at *
    go_wp2_with fail
    refine (HB.out _).mono ?_
    rintro e w2 ⟨v, rfl, O2, S2⟩
    obtain ⟨A, cap, v3, w3, rfl, hr3, o3, s3⟩ := HJ.out w2 v S2 O2 (by decide)
    have HR3 := Lib.hid hr3
    have O3 := Lib.hid (Own.base o3 HS1.out.size)
    have S3 := Lib.hid (HS1.out.trans (s3.mono HS1.out.size))
    clear hr3 O2 S2 HJ HB o3 s3
    go_wp2_with ((with_reducible refine is_append 22 rfl ?_); (with_reducible refine wpList_append_run rfl rfl HR3.out ?_ ?_ ?_); (· rfl); (· rfl))
    go_ret
    exact ⟨z, 2, HSS.out (), v3, rfl, by rw [HZ.out (), HE.out]; exact O3.out, S3.out⟩
  · have HB := Lib.hid (ref_bytes zl hz0 hz1 4 (by decide))
    have HJ := Lib.hid (fun w2 v => join_run (n := 4) (length_rle 4 zl) (rfl : _ = w1.alloc (.cells #[.int .u8 250] 5)) (w2 := w2) (v := v))
    have HE : Hid (hlay 7 (4 : Nat) zl = 250 :: (le 4 zl).reverse) := Lib.hid rfl
    generalize (le 4 zl).reverse = L at *
    go_wp2_with fail
    refine (HB.out _).mono ?_
    rintro e w2 ⟨v, rfl, O2, S2⟩
    obtain ⟨A, cap, v3, w3, rfl, hr3, o3, s3⟩ := HJ.out w2 v S2 O2 (by decide)
    have HR3 := Lib.hid hr3
    have O3 := Lib.hid (Own.base o3 HS1.out.size)
    have S3 := Lib.hid (HS1.out.trans (s3.mono HS1.out.size))
    clear hr3 O2 S2 HJ HB o3 s3
    go_wp2_with ((with_reducible refine is_append 22 rfl ?_); (with_reducible refine wpList_append_run rfl rfl HR3.out ?_ ?_ ?_); (· rfl); (· rfl))
    go_ret
    exact ⟨z, 4, HSS.out (), v3, rfl, by rw [HZ.out (), HE.out]; exact O3.out, S3.out⟩
  · have HB := Lib.hid (ref_bytes zl hz0 hz1 8 (by decide))
    have HJ := Lib.hid (fun w2 v => join_run (n := 8) (length_rle 8 zl) (rfl : _ = w1.alloc (.cells #[.int .u8 251] 5)) (w2 := w2) (v := v))
    have HE : Hid (hlay 7 (8 : Nat) zl = 251 :: (le 8 zl).reverse) := Lib.hid rfl
    generalize (le 8 zl).reverse = L at *
    go_wp2_with fail
    refine (HB.out _).mono ?_
    rintro e w2 ⟨v, rfl, O2, S2⟩
    obtain ⟨A, cap, v3, w3, rfl, hr3, o3, s3⟩ := HJ.out w2 v S2 O2 (by decide)
    have HR3 := Lib.hid hr3
    have O3 := Lib.hid (Own.base o3 HS1.out.size)
    have S3 := Lib.hid (HS1.out.trans (s3.mono HS1.out.size))
    clear hr3 O2 S2 HJ HB o3 s3
    go_wp2_with ((with_reducible refine is_append 22 rfl ?_); (with_reducible refine wpList_append_run rfl rfl HR3.out ?_ ?_ ?_); (· rfl); (· rfl))
    go_ret
    exact ⟨z, 8, HSS.out (), v3, rfl, by rw [HZ.out (), HE.out]; exact O3.out, S3.out⟩
end Go.Proofs.Ytimmgajeflghlaa
