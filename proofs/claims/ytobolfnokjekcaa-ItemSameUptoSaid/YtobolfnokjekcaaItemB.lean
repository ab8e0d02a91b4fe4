
/- Package item: two items held against each other by themselves. -/
import Derived.Test.YtobolfnokjekcaaItemA
import Derived.Test.YtobolfnokjekcaaQTail
import Derived.Deep.QuietTactic
namespace Go.Proofs.Ytobolfnokjekcaa
open Go.RowKit

/-- A block of an item's four cells. -/
theorem iblk {w : World} {g : Nat} {t : TypeId} {a b c d : Value} (h : Blk w g t #[a, b, c, d]) :
    w.cell? ⟨g, 0, none⟩ = some a ∧ w.cell? ⟨g, 1, none⟩ = some b ∧ w.cell? ⟨g, 2, none⟩ = some c ∧ w.cell? ⟨g, 3, none⟩ = some d ∧ w.frozen? ⟨g, 3, none⟩ = false :=
  ⟨by rw [h.cell]; rfl, by rw [h.cell]; rfl, by rw [h.cell]; rfl, by rw [h.cell]; rfl, h.free 3⟩
/-- Two items boxed, one behind the other. -/
theorem iblk2 (w : World) (t : TypeId) (a b : Array Value) : ∃ w1, (w.alloc (.cells a t)).alloc (.cells b t) = w1 ∧ Blk w1 w.heap.size t a ∧ Blk w1 (w.heap.size + 1) t b ∧ Below w.heap.size w w1 :=
  ⟨_, rfl, (Blk.fresh w t a).alloc _, by have := Blk.fresh (w.alloc (.cells a t)) t b; rwa [World.size_alloc] at this, (below_alloc w _).alloc (by simp) _⟩
theorem iblk1 (w : World) (t : TypeId) (a : Array Value) : ∃ w1, w.alloc (.cells a t) = w1 ∧ Blk w1 w.heap.size t a ∧ Below w.heap.size w w1 :=
  ⟨_, rfl, Blk.fresh w t a, below_alloc w _⟩

set_option maxRecDepth 100000 in
set_option maxHeartbeats 2000000 in
theorem item_compareOne (k1 n1 k2 n2 : Int) (s1 s2 : ByteArray) (A1 A2 : Option Addr) (m1 c1 m2 c2 : Nat) (w : World) :
    Calls Try.prog 31 #[.agg #[.int .i64 k1, .int .u64 n1, .string s1, .slice A1 m1 c1], .agg #[.int .i64 k2, .int .u64 n2, .string s2, .slice A2 m2 c2]] w fun e w' =>
      e = .returned (.int .i64 (orC (intC k1 k2) (intC n1 n2) (intC m1 m2) (textC s1 s2))) ∧ Below w.heap.size w w' := by
  have C1 := Lib.hid (fun w => cmp_int k1 k2 w)
  have C2 := Lib.hid (fun w => cmp_u64 n1 n2 w)
  have C3 := Lib.hid (fun w => cmp_int m1 m2 w)
  have C4 := Lib.hid (fun w => strings_compare s1 s2 w)
  generalize intC k1 k2 = x1 at *
  generalize intC n1 n2 = x2 at *
  generalize intC m1 m2 = x3 at *
  generalize textC s1 s2 = x4 at *
  go_enter Try.func31, Try.ntmps31
  go_wp2_with fail
  obtain ⟨w1, hw1, b1, b2, S⟩ := iblk2 w 25 #[.int .i64 k1, .int .u64 n1, .string s1, .slice A1 m1 c1] #[.int .i64 k2, .int .u64 n2, .string s2, .slice A2 m2 c2]
  rw [hw1]
  clear hw1
  have HS := Lib.hid S
  clear S
  generalize hgg : w.heap.size = g at *
  obtain ⟨p0, p1, p2, p3, -⟩ := iblk b1
  obtain ⟨q0, q1, q2, q3, -⟩ := iblk b2
  clear b1 b2
  refine wp_region_quiet_tail 22 (by kernel_rfl) (by kernel_rfl) ?_
  simp only [List.take_succ_cons, List.take_zero, List.drop_succ_cons, List.drop_zero]
  repeat (quiet_step (first | (with_reducible exact Calls.quiet_of_same (C1.out _)) | (with_reducible exact Calls.quiet_of_same (C2.out _)) | (with_reducible exact Calls.quiet_of_same (C3.out _)) | (with_reducible exact Calls.quiet_of_same (C4.out _))))
  refine wpQuiet_nil ?_
  rintro _ ⟨q, rfl⟩
  have HS2 := Lib.hid (below_drawnN HS.out q)
  have hg : g ≤ (w1.drewN q).heap.size := Nat.le_of_lt (block_lt_of_cell p0)
  generalize w1.drewN q = w2 at *
  go_wp2_with (go_at_call 37; refine (cmp_or x1 x2 x3 x4 _ _ (fun i hi => ?_)).mono ?_)
  · rw [(Blk.fresh w2 _ _).cell]
    rcases (by omega : i = 0 ∨ i = 1 ∨ i = 2 ∨ i = 3) with rfl | rfl | rfl | rfl <;> rfl
  · rintro e w' ⟨rfl, rfl⟩
    go_wp2
    go_ret
    exact ⟨rfl, by rw [hgg]; exact HS2.out.trans ((below_alloc w2 _).mono hg)⟩
end Go.Proofs.Ytobolfnokjekcaa
