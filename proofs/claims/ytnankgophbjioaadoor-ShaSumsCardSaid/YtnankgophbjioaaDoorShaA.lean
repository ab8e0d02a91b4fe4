
/- Package sha: the small functions that only reckon. -/
import Derived.Test.YtnankgophbjioaaDoorTurn
import Derived.Laws.DeepBits32
import Derived.WalkSmall
namespace Go.Proofs.YtnankgophbjioaaDoor
open Go.RowKit

/-- x turned by i, by j and by k, put together. -/
def sig (x : Int) (i j k : Nat) : Int := bits .xor .u32 (bits .xor .u32 (turned 32 x i) (turned 32 x j)) (turned 32 x k)
def sigs (x : Int) (i j k : Nat) : Int := bits .xor .u32 (bits .xor .u32 (turned 32 x i) (turned 32 x j)) (x / 2 ^ k)

theorem sha_turned (x i j k : Int) (h0 : 0 ≤ x) (h1 : x < 4294967296) (w : World) :
    Calls Tryd.prog 29 #[.int .u32 x, .int .i64 i, .int .i64 j, .int .i64 k] w fun e w' => e = .returned (.int .u32 (sig x (i % 32).toNat (j % 32).toNat (k % 32).toNat)) ∧ w = w' := by
  go_enter Tryd.func29, Tryd.ntmps29
  go_wp2_with (go_at_call 32; refine (Right32 _ _ h0 h1 _).mono ?_; rintro e w' ⟨rfl, rfl⟩)
  go_ret
  exact ⟨rfl, rfl⟩
theorem sha_shifted (x i j : Int) (k : Nat) (hk : k < 32) (h0 : 0 ≤ x) (h1 : x < 4294967296) (w : World) :
    Calls Tryd.prog 28 #[.int .u32 x, .int .i64 i, .int .i64 j, .int .u64 k] w fun e w' => e = .returned (.int .u32 (sigs x (i % 32).toNat (j % 32).toNat k)) ∧ w = w' := by
  go_enter Tryd.func28, Tryd.ntmps28
  go_wp2_with (go_at_call 32; refine (Right32 _ _ h0 h1 _).mono ?_; rintro e w' ⟨rfl, rfl⟩)
  go_ret
  exact ⟨rfl, rfl⟩
def InL (l : List Int) : Prop := ∀ c ∈ l, 0 ≤ c ∧ c < 4294967296
theorem S1_call (x : Int) (h0 : 0 ≤ x) (h1 : x < 4294967296) (w : World) :
    Calls Tryd.prog 29 #[.int .u32 x, .int .i64 6, .int .i64 11, .int .i64 25] w fun e w' => e = .returned (.int .u32 (sig x 6 11 25)) ∧ w = w' := sha_turned x 6 11 25 h0 h1 w
theorem S0_call (x : Int) (h0 : 0 ≤ x) (h1 : x < 4294967296) (w : World) :
    Calls Tryd.prog 29 #[.int .u32 x, .int .i64 2, .int .i64 13, .int .i64 22] w fun e w' => e = .returned (.int .u32 (sig x 2 13 22)) ∧ w = w' := sha_turned x 2 13 22 h0 h1 w
theorem s1_call (x : Int) (h0 : 0 ≤ x) (h1 : x < 4294967296) (w : World) :
    Calls Tryd.prog 28 #[.int .u32 x, .int .i64 17, .int .i64 19, .int .u64 10] w fun e w' => e = .returned (.int .u32 (sigs x 17 19 10)) ∧ w = w' := sha_shifted x 17 19 10 (by decide) h0 h1 w
theorem s0_call (x : Int) (h0 : 0 ≤ x) (h1 : x < 4294967296) (w : World) :
    Calls Tryd.prog 28 #[.int .u32 x, .int .i64 7, .int .i64 18, .int .u64 3] w fun e w' => e = .returned (.int .u32 (sigs x 7 18 3)) ∧ w = w' := sha_shifted x 7 18 3 (by decide) h0 h1 w

/-- One of the 64 steps of a block. -/
def shaT1 (e f g h x : Int) : Int := h + sig e 6 11 25 + bits .or .u32 (bits .and .u32 e f) (bits .and .u32 (bits .xor .u32 IntKind.u32.max e) g) + x
def shaT2 (a b c : Int) : Int := sig a 2 13 22 + bits .or .u32 (bits .or .u32 (bits .and .u32 a b) (bits .and .u32 a c)) (bits .and .u32 b c)
def stepL (x : Int) : List Int → List Int
  | [a, b, c, d, e, f, g, h] => [(shaT1 e f g h x + shaT2 a b c) % 4294967296, a, b, c, (d + shaT1 e f g h x) % 4294967296, e, f, g]
  | l => l
set_option maxHeartbeats 800000 in
theorem sha_step8 (a b c d e f g h x : Int) (ha : 0 ≤ a ∧ a < 4294967296) (he : 0 ≤ e ∧ e < 4294967296) (w : World) :
    Calls Tryd.prog 23 #[.agg #[.int .u32 a, .int .u32 b, .int .u32 c, .int .u32 d, .int .u32 e, .int .u32 f, .int .u32 g, .int .u32 h], .int .u32 x] w fun r w' => r = .returned (.agg (nums .u32 (stepL x [a, b, c, d, e, f, g, h]))) ∧ Below w.heap.size w w' := by
  obtain ⟨a0, a1⟩ := ha
  obtain ⟨e0, e1⟩ := he
  have hs : IntKind.u32.signed = false := rfl
  go_enter Tryd.func23, Tryd.ntmps23
  go_wp2
  go_quiet (fail)
  go_wp2_with (first | (go_at_call 29; ((with_reducible refine (S1_call _ e0 e1 _).mono ?_); rintro r w' ⟨rfl, rfl⟩)) | (go_at_call 29; ((with_reducible refine (S0_call _ a0 a1 _).mono ?_); rintro r w' ⟨rfl, rfl⟩)))
  refine bodyPost_ret (v := .agg (nums .u32 (stepL x [a, b, c, d, e, f, g, h]))) (by simp [results, Tryd.results23, go_sem, stepL, nums, shaT1, shaT2]) rfl ⟨rfl, ?_⟩
  repeat (with_reducible (first | exact Below.refl _ _ | refine Below.setCell ?_ (by simp) _ | refine Below.alloc ?_ (by simp) _ | refine below_drewN ?_ _))
theorem length8 {l : List Int} (h : l.length = 8) : ∃ a b c d e f g i, l = [a, b, c, d, e, f, g, i] := by
  match l, h with
  | [a, b, c, d, e, f, g, i], _ => exact ⟨a, b, c, d, e, f, g, i, rfl⟩
theorem sha_step (v : List Int) (x : Int) (hl : v.length = 8) (hv : InL v) (w : World) :
    Calls Tryd.prog 23 #[.agg (nums .u32 v), .int .u32 x] w fun r w' => r = .returned (.agg (nums .u32 (stepL x v))) ∧ Below w.heap.size w w' := by
  obtain ⟨a, b, c, d, e, f, g, h, rfl⟩ := length8 hl
  exact sha_step8 a b c d e f g h x (hv a (by simp)) (hv e (by simp)) w
theorem length_stepL (x : Int) (v : List Int) : (stepL x v).length = v.length := by
  unfold stepL; split <;> simp
theorem inL_stepL (x : Int) (v : List Int) (h : InL v) : InL (stepL x v) := by
  unfold stepL; split
  · intro c hc
    simp only [List.mem_cons, List.not_mem_nil, or_false] at hc
    have := fun y hy => h y hy
    simp only [List.mem_cons, List.not_mem_nil, or_false] at this
    rcases hc with rfl | rfl | rfl | rfl | rfl | rfl | rfl | rfl
    · omega
    · exact this _ (by simp)
    · exact this _ (by simp)
    · exact this _ (by simp)
    · omega
    · exact this _ (by simp)
    · exact this _ (by simp)
    · exact this _ (by simp)
  · exact h
end Go.Proofs.YtnankgophbjioaaDoor
