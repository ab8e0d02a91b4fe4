/- The contracts of package bits' calls on bytes. -/
import Derived.Test.YtabmckjlmpajoaaDoorKAX
import Derived.Laws.IdiomCopy
namespace Go.Proofs.YtabmckjlmpajoaaDoor
open Go.RowKit

theorem setRow_fresh (w : World) (cs cs' : Array Value) (t : TypeId) : (w.alloc (.cells cs t)).setRow w.heap.size cs' = w.alloc (.cells cs' t) := by
  unfold World.setRow World.alloc
  simp only []
  congr 1
  apply Array.ext
  · simp
  · intro i h1 h2
    simp only [Array.getElem_modify, Array.getElem_push]
    by_cases e : i < w.heap.size
    · rw [if_neg (by omega)]; simp [e]
    · have e2 : w.heap.size = i := by simp at h1; omega
      simp [e2]
theorem pad_take (zs : List Int) (n : Nat) : pad zs n = zs.take n ++ List.replicate (n - zs.length) 0 := by
  apply ext_getD
  · simp [length_pad]; omega
  · intro i hi
    rw [length_pad] at hi
    have e1 : (pad zs n).getD i 0 = zs.getD i 0 := by simp [pad, List.getD_eq_getElem?_getD, hi]
    rw [e1]
    simp only [List.getD_eq_getElem?_getD, List.getElem?_append, List.length_take, List.getElem?_take, List.getElem?_replicate]
    by_cases e : i < zs.length
    · rw [if_pos (by omega), if_pos hi]
    · rw [if_neg (by omega), List.getElem?_eq_none (by omega)]
      split <;> rfl

/-- copy of the numbers zs into a new block of n zeros. -/
theorem copy_pad (P : Program) (w : World) (dT sT ty elem t : TypeId) (n cap : Nat) (A : Option Addr) (zs : List Int) (hu : P.underlying dT = some (.slice elem)) (hs : (P.info? elem).map (·.size) = some 1)
    (hr : Rd w w.heap.size .u8 A zs) :
    (Builtin.copy_ #[dT, sT] ty #[.slice (some ⟨w.heap.size, 0, none⟩) n n, .slice A zs.length cap]).run P (w.alloc (.cells (nums .u8 (List.replicate n 0)) t)) =
      .ok (goInt (Nat.min zs.length n)) (w.alloc (.cells (nums .u8 (pad zs n)) t)) := by
  by_cases h0 : Nat.min zs.length n = 0
  · rw [run_copy_none _ dT sT ty elem _ _ _ _ _ _ hu hs h0, h0, pad_take]
    have h0' : min zs.length n = 0 := h0
    have e : zs.take n = [] := List.eq_nil_of_length_eq_zero (by rw [List.length_take]; omega)
    rw [e, List.nil_append]
    rcases Nat.eq_zero_or_pos n with hn | hn
    · subst hn; simp
    · rw [show n - zs.length = n by omega]; rfl
  · have h0' : min zs.length n ≠ 0 := h0
    obtain ⟨b, o, rfl, hb, hc⟩ := hr (by omega)
    have hlen : (zs.take n).length = Nat.min zs.length n := by rw [List.length_take]; exact Nat.min_comm _ _
    have hg : (w.alloc (.cells (nums .u8 (List.replicate n 0)) t)).heap[w.heap.size]? = some (.cells (nums .u8 (List.replicate n 0)) t (0, 0)) := Blk.fresh w t _
    rw [run_copy_row (P := P) _ dT sT ty elem w.heap.size 0 n n ⟨b, o, none⟩ zs.length cap _ t ((zs.take n).map (Value.int .u8)) hu hs hg (by rw [List.length_map]; exact hlen) ?_ ?_ ?_]
    · rw [List.length_map, hlen, setRow_fresh, pad_take]
      congr 4
      simp only [nums, List.take_zero, List.nil_append, Nat.zero_add, List.map_append, List.map_replicate, List.drop_replicate]
      rw [show n - Nat.min zs.length n = n - zs.length by show n - min zs.length n = _; omega]
    · intro j v hj
      rw [List.getElem?_map] at hj
      have hj' : j < (zs.take n).length := by
        rcases Nat.lt_or_ge j (zs.take n).length with h | h
        · exact h
        · rw [List.getElem?_eq_none h] at hj; cases hj
      rw [List.length_take] at hj'
      have hv := hc j (by omega)
      rw [World.cell?_alloc_lt _ _ _ (by simp [Addr.add]; split <;> simpa using hb)]
      rw [List.getElem?_take, if_pos (by omega)] at hj
      have e : zs[j]? = some (zs.getD j 0) := by simp [List.getD_eq_getElem?_getD, show j < zs.length by omega]
      rw [e] at hj
      simp only [Option.map_some, Option.some.injEq] at hj
      subst hj
      rw [← hv]
      congr 1
      unfold Addr.add
      split
      · rename_i h; subst h; rfl
      · rfl
    · simp [nums, List.length_take]; omega
    · intro v hv
      rw [List.mem_map] at hv
      obtain ⟨c, _, rfl⟩ := hv
      rfl

theorem elem_one : (Tryd.prog.info? 5).map (·.size) = some 1 := by kernel_rfl
theorem zeros4 : nums .u8 (List.replicate 4 0) = #[.int .u8 0, .int .u8 0, .int .u8 0, .int .u8 0] := rfl
theorem zeros8 : nums .u8 (List.replicate 8 0) = #[.int .u8 0, .int .u8 0, .int .u8 0, .int .u8 0, .int .u8 0, .int .u8 0, .int .u8 0, .int .u8 0] := rfl
theorem make4 (w : World) : (Instr.makeSlice 88 (.int .i64 4) (.int .i64 4)).run Tryd.prog w = .ok (.slice (some ⟨w.heap.size, 0, none⟩) 4 4) (w.alloc (.cells #[.int .u8 0, .int .u8 0, .int .u8 0, .int .u8 0] 5)) := by kernel_rfl
theorem make8 (w : World) : (Instr.makeSlice 88 (.int .i64 8) (.int .i64 8)).run Tryd.prog w = .ok (.slice (some ⟨w.heap.size, 0, none⟩) 8 8) (w.alloc (.cells #[.int .u8 0, .int .u8 0, .int .u8 0, .int .u8 0, .int .u8 0, .int .u8 0, .int .u8 0, .int .u8 0] 5)) := by kernel_rfl
theorem blk4 (w : World) (t : TypeId) : Blk (w.alloc (.cells #[.int .u8 0, .int .u8 0, .int .u8 0, .int .u8 0] t)) w.heap.size t (nums .u8 (List.replicate 4 0)) := Blk.fresh w t _
theorem blk8 (w : World) (t : TypeId) : Blk (w.alloc (.cells #[.int .u8 0, .int .u8 0, .int .u8 0, .int .u8 0, .int .u8 0, .int .u8 0, .int .u8 0, .int .u8 0] t)) w.heap.size t (nums .u8 (List.replicate 8 0)) := Blk.fresh w t _

end Go.Proofs.YtabmckjlmpajoaaDoor
