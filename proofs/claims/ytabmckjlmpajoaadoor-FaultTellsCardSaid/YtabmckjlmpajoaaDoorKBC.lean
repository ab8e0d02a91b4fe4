/- Package fault: Error, Wrap, Code, At, Is; the law's example. -/
import Derived.Test.YtabmckjlmpajoaaDoorKAD
import Derived.Test.YtabmckjlmpajoaaDoorKBB
namespace Go.Proofs.YtabmckjlmpajoaaDoor
open Go.RowKit Go.Sort

def vV (e a : Int) : Value := .agg #[.int .i64 e, .int .i64 a]
/-- Error of a verdict that isn't OK. -/
theorem fault_Error (w : World) (e a : Int) (h : e ≠ 0) :
    Calls Tryd.prog 6 #[vV e a] w fun ev w' => ∃ fb, ev = .returned (fltE fb) ∧ Chn w' fb e a [] (fltE fb) ∧ Below w.heap.size w w' := by
  unfold vV
  go_enter Tryd.func6, Tryd.ntmps6
  go_wp2_with fail
  go_ret
  refine ⟨_, rfl, ⟨rfl, ?_⟩, (below_alloc w _).alloc (by simp) _⟩
  have hF := Blk.fresh (w.alloc (.cells #[.int .i64 e, .int .i64 a] 24)) 40 #[.int .i64 e, .int .i64 a]
  rw [show (w.alloc (.cells #[.int .i64 e, .int .i64 a] 24)).heap.size = w.heap.size + 1 by simp] at hF
  exact hF
theorem fault_Error_ok (w : World) (a : Int) :
    Calls Tryd.prog 6 #[vV 0 a] w fun ev w' => ev = .returned .nilIface ∧ Below w.heap.size w w' := by
  unfold vV
  go_enter Tryd.func6, Tryd.ntmps6
  go_wp2_with fail
  go_ret
  exact ⟨rfl, below_alloc w _⟩
theorem Chn.rank {w : World} {fb : Nat} {e a : Int} {l : List ByteArray} {v : Value} (h : Chn w fb e a l v) : rankE v ≤ w.heap.size := by
  cases l with
  | nil => obtain ⟨rfl, hB⟩ := h; exact hB.lt
  | cons s r => obtain ⟨b, u, rfl, hB, _⟩ := h; exact hB.lt
/-- Wrap. -/
theorem fault_Wrap (w : World) (fb : Nat) (e a : Int) (l : List ByteArray) (v : Value) (s : ByteArray) (h : Chn w fb e a l v) :
    Calls Tryd.prog 7 #[v, .string s] w fun ev w' => ∃ b, ev = .returned (wrpE b) ∧ Chn w' fb e a (s :: l) (wrpE b) ∧ Below w.heap.size w w' := by
  have H := Lib.hid h
  obtain ⟨T, x, rfl⟩ := h.iface
  clear h
  go_enter Tryd.func7, Tryd.ntmps7
  go_wp2_with fail
  go_ret
  exact ⟨_, rfl, ⟨_, _, rfl, Blk.fresh _ _ _, H.out.rank, H.out.alloc _⟩, below_alloc w _⟩
theorem fault_Wrap_nil (w : World) (s : ByteArray) :
    Calls Tryd.prog 7 #[.nilIface, .string s] w fun ev w' => ev = .returned .nilIface ∧ w' = w := by
  go_enter Tryd.func7, Tryd.ntmps7
  go_wp2_with fail
  go_ret
  exact ⟨rfl, rfl⟩
/-- Code. -/
theorem fault_Code (w : World) (fb : Nat) (e a : Int) (l : List ByteArray) (v : Value) (h : Chn w fb e a l v ∨ v = numE e) (hE : ErrT w) :
    Calls Tryd.prog 9 #[v] w fun ev w' => ev = .returned (.int .i64 e) ∧ Below w.heap.size w w' := by
  have K := Lib.hid (as_num (w.alloc (.cells #[.int .i64 0] 22)) fb e a l v (.int .i64 0) ⟨w.heap.size, 0, none⟩ (hE.on (below_alloc _ _)) (h.imp (fun h => h.alloc _) id) ((Blk.fresh w 22 #[.int .i64 0]).cell 0) ((Blk.fresh w 22 #[.int .i64 0]).free 0))
  have S := Lib.hid (below_alloc w (.cells #[.int .i64 0] 22))
  obtain ⟨T, y, rfl⟩ : ∃ T y, v = .iface T y := by
    rcases h with h | h
    · obtain ⟨T, y, h⟩ := h.iface; exact ⟨T, _, h⟩
    · exact ⟨_, _, h⟩
  clear h hE
  go_enter Tryd.func9, Tryd.ntmps9
  go_wp2_with (go_at_call 14; refine K.out.mono ?_; rintro ev w' ⟨rfl, hc, hb⟩)
  go_ret
  exact ⟨rfl, S.out.trans hb⟩
theorem fault_Code_nil (w : World) : Calls Tryd.prog 9 #[.nilIface] w fun ev w' => ev = .returned (.int .i64 0) ∧ w' = w := by
  go_enter Tryd.func9, Tryd.ntmps9
  go_wp2_with fail
  go_ret
  exact ⟨rfl, rfl⟩
theorem fault_Code_other (w : World) (y : Value) (hE : ErrT w) :
    Calls Tryd.prog 9 #[.iface 43 y] w fun ev w' => ev = .returned (.int .i64 10) ∧ Below w.heap.size w w' := by
  have K := Lib.hid (as_num_no (w.alloc (.cells #[.int .i64 0] 22)) y ⟨w.heap.size, 0, none⟩ (hE.on (below_alloc _ _)))
  have S := Lib.hid (below_alloc w (.cells #[.int .i64 0] 22))
  clear hE
  go_enter Tryd.func9, Tryd.ntmps9
  go_wp2_with (go_at_call 14; refine K.out.mono ?_; rintro ev w' ⟨rfl, hb⟩)
  go_ret
  exact ⟨rfl, S.out.trans (hb.mono S.out.size)⟩
/-- At. -/
theorem Chn.end {w : World} {fb : Nat} {e a : Int} : ∀ {l : List ByteArray} {v : Value}, Chn w fb e a l v → Blk w fb 40 #[.int .i64 e, .int .i64 a]
  | [], _, h => h.2
  | _ :: _, _, ⟨_, _, _, _, _, h⟩ => h.end
theorem fault_At (w : World) (fb : Nat) (e a : Int) (l : List ByteArray) (v : Value) (h : Chn w fb e a l v) (hE : ErrT w) :
    Calls Tryd.prog 8 #[v] w fun ev w' => ev = .returned (.tuple #[.int .i64 a, .bool true]) ∧ Below w.heap.size w w' := by
  have S := Lib.hid (below_alloc w (.cells #[.pointer none] 38))
  have HB := Lib.hid (fun W (hW : Below w.heap.size w W) => (h.end.on hW).cell 1)
  have K := Lib.hid (as_flt (w.alloc (.cells #[.pointer none] 38)) fb e a l v (.pointer none) ⟨w.heap.size, 0, none⟩ (hE.on (below_alloc _ _)) (h.alloc _) ((Blk.fresh w 38 #[.pointer none]).cell 0) ((Blk.fresh w 38 #[.pointer none]).free 0))
  clear h hE
  go_enter Tryd.func8, Tryd.ntmps8
  go_wp2_with (go_at_call 14; refine K.out.mono ?_; rintro ev w' ⟨rfl, hc, hb⟩; have hb' := S.out.trans hb; have hc2 := HB.out _ hb'; have HBB := Lib.hid hb'; clear hb hb')
  go_ret2
  exact ⟨rfl, HBB.out⟩
theorem fault_At_num (w : World) (e : Int) (hE : ErrT w) :
    Calls Tryd.prog 8 #[numE e] w fun ev w' => ev = .returned (.tuple #[.int .i64 0, .bool false]) ∧ Below w.heap.size w w' := by
  have S := Lib.hid (below_alloc w (.cells #[.pointer none] 38))
  have K := Lib.hid (as_flt_no (w.alloc (.cells #[.pointer none] 38)) e ⟨w.heap.size, 0, none⟩ (hE.on (below_alloc _ _)))
  clear hE
  unfold numE at *
  go_enter Tryd.func8, Tryd.ntmps8
  go_wp2_with (go_at_call 14; refine K.out.mono ?_; rintro ev w' ⟨rfl, hb⟩)
  go_ret2
  exact ⟨rfl, S.out.trans (hb.mono S.out.size)⟩
theorem fault_At_nil (w : World) :
    Calls Tryd.prog 8 #[.nilIface] w fun ev w' => ev = .returned (.tuple #[.int .i64 0, .bool false]) ∧ Below w.heap.size w w' := by
  have S := Lib.hid (below_alloc w (.cells #[.pointer none] 38))
  have K : ∀ (t : Value) (w : World), Calls Tryd.prog 14 #[.nilIface, t] w fun ev w' => ev = .returned (.bool false) ∧ w' = w := by
    intro t w
    go_enter Tryd.func14, Tryd.ntmps14
    go_wp2
    go_ret
    exact ⟨rfl, rfl⟩
  go_enter Tryd.func8, Tryd.ntmps8
  go_wp2_with (go_at_call 14; refine (K _ _).mono ?_; rintro ev w' ⟨rfl, rfl⟩)
  go_ret2
  exact ⟨rfl, S.out⟩
/-- Is. -/
theorem fault_Is (w : World) (fb : Nat) (e a k : Int) (l : List ByteArray) (v : Value) (h : Chn w fb e a l v ∨ v = numE e) :
    Calls Tryd.prog 10 #[v, .int .i64 k] w fun ev w' => ev = .returned (.bool (!(k == 0) && e == k)) ∧ w' = w := by
  have K := Lib.hid (is_ok w fb e a k l v h)
  obtain ⟨T, y, rfl⟩ : ∃ T y, v = .iface T y := by
    rcases h with h | h
    · obtain ⟨T, y, h⟩ := h.iface; exact ⟨T, _, h⟩
    · exact ⟨_, _, h⟩
  clear h
  unfold numE at K
  by_cases hk : k = 0
  · subst hk
    go_enter Tryd.func10, Tryd.ntmps10
    go_wp2_with fail
    go_ret
    exact ⟨rfl, rfl⟩
  · have hk' : (k == 0) = false := by simpa using hk
    rw [hk']
    generalize hq : (e == k) = q at *
    clear hk'
    go_enter Tryd.func10, Tryd.ntmps10
    go_wp2_with (go_at_call 15; refine K.out.mono ?_; rintro ev w' ⟨rfl, rfl⟩)
    go_ret
    exact ⟨rfl, rfl⟩
theorem fault_Is_nil (w : World) (k : Int) :
    Calls Tryd.prog 10 #[.nilIface, .int .i64 k] w fun ev w' => ev = .returned (.bool (k == 0)) ∧ w' = w := by
  have K := Lib.hid (show Calls Tryd.prog 15 #[.nilIface, .iface 22 (.int .i64 k)] w fun ev w' => ev = .returned (.bool false) ∧ w' = w from by
    have hn := run_eql_iface_nil_left (P := Tryd.prog) w 22 (.int .i64 k) Tryd.underlying28
    go_enter Tryd.func15, Tryd.ntmps15
    go_wp2
    go_ret
    exact ⟨rfl, rfl⟩)
  by_cases hk : k = 0
  · subst hk
    go_enter Tryd.func10, Tryd.ntmps10
    go_wp2_with fail
    go_ret
    exact ⟨rfl, rfl⟩
  · have hk' : (k == 0) = false := by simpa using hk
    rw [hk']
    clear hk'
    go_enter Tryd.func10, Tryd.ntmps10
    go_wp2_with (go_at_call 15; refine K.out.mono ?_; rintro ev w' ⟨rfl, rfl⟩)
    go_ret
    exact ⟨rfl, rfl⟩
/-- The law's example. -/
theorem fault_awake (w : World) (hE : ErrT w) :
    Calls Tryd.prog 5 #[] w fun ev w' => ev = .returned (.bool true) ∧ Below w.heap.size w w' := by
  have HE := Lib.hid (fun W (hW : Below w.heap.size w W) => hE.on hW)
  have K1 := Lib.hid (fault_Error w 3 5 (by decide))
  unfold vV at K1
  clear hE
  go_enter Tryd.func5, Tryd.ntmps5
  go_wp2_with (first
    | (go_at_call 6; refine K1.out.mono ?_; rintro ev w1 ⟨fb, rfl, C1, b1⟩; have C1 := Lib.hid C1; have B1 := Lib.hid b1; clear b1)
    | (go_at_call 7; refine (fault_Wrap _ fb 3 5 [] _ _ C1.out).mono ?_; rintro ev w2 ⟨b, rfl, C2, b2⟩; have C2 := Lib.hid C2; have B2 := Lib.hid (B1.out.trans (b2.mono B1.out.size)); clear b2)
    | (go_at_call 8; refine (fault_At _ fb 3 5 _ _ C2.out (HE.out _ B2.out)).mono ?_; rintro ev w3 ⟨rfl, b3⟩; have C3 := Lib.hid (C2.out.on b3); have B3 := Lib.hid (B2.out.trans (b3.mono B2.out.size)); clear b3)
    | (go_at_call 9; refine (fault_Code _ fb 3 5 _ _ (Or.inl C3.out) (HE.out _ B3.out)).mono ?_; rintro ev w4 ⟨rfl, b4⟩; have B4 := Lib.hid (B3.out.trans (b4.mono B3.out.size)); clear b4)
    | fail)
  go_ret
  exact ⟨rfl, B4.out⟩
end Go.Proofs.YtabmckjlmpajoaaDoor
