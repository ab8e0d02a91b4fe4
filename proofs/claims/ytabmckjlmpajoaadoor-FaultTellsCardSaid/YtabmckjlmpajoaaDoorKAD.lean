/- errors.As, errors.Is. -/
import Derived.Test.YtabmckjlmpajoaaDoorKAC
import Derived.Lib.IfaceEq
namespace Go.Proofs.YtabmckjlmpajoaaDoor
open Go.RowKit Go.Extern.Stop Go.Stop Go.Extern

/-- The library's own variable, laid as its text lays it. -/
def ErrT (w : World) : Prop := w.cell? ⟨0, 0, none⟩ = some (.iface 69 (.agg #[.pointer (some ⟨4, 28, none⟩)]))
theorem ErrT.on {w w' : World} (h : ErrT w) (hb : Below w.heap.size w w') : ErrT w' := by
  unfold ErrT at h ⊢
  rw [hb.cell (lt_of_cell h)]
  exact h

set_option maxHeartbeats 4000000 in
/-- errors.As, up to what it calls: a fault wanted. -/
theorem as_flt_pre (Q : Ending → World → Prop) (T : Nat) (x : Value) (w : World) (t : Addr) (hE : ErrT w)
    (hk : Calls Tryd.prog 22 #[.iface T x, .iface 50 (.pointer (some t)), rvFF ⟨w.heap.size, 0, none⟩, .iface 69 (.agg #[.pointer (some ⟨4, 38, none⟩)])]
      ((w.alloc (.cells #[.pointer (some t)] 50)).alloc (.cells #[.pointer (some ⟨4, 50, none⟩), .pointer (some ⟨w.heap.size, 0, none⟩), .int .u64 150] 57)) fun ev w' => ∃ b, ev = .returned (.bool b) ∧ Q (.returned (.bool b)) w') :
    Calls Tryd.prog 14 #[.iface T x, .iface 50 (.pointer (some t))] w Q := by
  have h19 := @run_callFunc_extern Tryd.prog 19 _ (fun args => ReflectliteValue.unpack (args.getD 0 (.tuple #[]))) Tryd.func19 (by kernel_rfl) (by kernel_rfl) (by kernel_rfl) (by kernel_rfl)
  have h20 := @run_callFunc_extern Tryd.prog 20 _ (ReflectliteValue.methodAny (ReflectliteValue.valueError "reflectlite.Value.Type" 0) (fun t _ _ _ => ReflectliteType.toType t)) Tryd.func20 (by kernel_rfl) (by kernel_rfl) (by kernel_rfl) (by kernel_rfl)
  have h21 := @run_callFunc_extern Tryd.prog 21 _ (ReflectliteValue.method (ReflectliteValue.valueError "reflectlite.Value.IsNil" 0) ReflectliteValue.isNil) Tryd.func21 (by kernel_rfl) (by kernel_rfl) (by kernel_rfl) (by kernel_rfl)
  have h52 := @run_callFunc_extern Tryd.prog 54 _ (ReflectliteType.abiMethod fun t => do pure (.int .u8 (← Rtype.kind t))) Tryd.func54 (by kernel_rfl) (by kernel_rfl) (by kernel_rfl) (by kernel_rfl)
  have h70 := @run_callFunc_extern Tryd.prog 70 _ (ReflectliteType.method ReflectliteType.elem) Tryd.func70 (by kernel_rfl) (by kernel_rfl) (by kernel_rfl) (by kernel_rfl)
  have h71 := @run_callFunc_extern Tryd.prog 71 _ (ReflectliteType.relation "Implements" ReflectliteType.implements_) Tryd.func71 (by kernel_rfl) (by kernel_rfl) (by kernel_rfl) (by kernel_rfl)
  have f1 := valueOfFF
  have f2 := typeFF
  have mK := methodKind
  have mE := methodElem
  have mI := methodImplements
  have k1 := kindFF
  have k2 := kindF
  have e1 := elemFF
  have i1 := implF
  have n1 := isNilFF ⟨w.heap.size, 0, none⟩ t ((w.alloc (.cells #[.pointer (some t)] 50)).alloc (.cells #[.pointer (some ⟨4, 50, none⟩), .pointer (some ⟨w.heap.size, 0, none⟩), .int .u64 150] 57)) (by simp)
  have hlt := lt_of_cell hE
  have hg2 : ErrT ((w.alloc (.cells #[.pointer (some t)] 50)).alloc (.cells #[.pointer (some ⟨4, 50, none⟩), .pointer (some ⟨w.heap.size, 0, none⟩), .int .u64 150] 57)) := (hE.on (below_alloc _ _)).on (below_alloc _ _)
  unfold ErrT at hg2
  unfold rvFF at hk
  clear hE hlt
  have HK := Lib.hid hk
  clear hk
  go_enter Tryd.func14, Tryd.ntmps14
  go_wp2_with (go_at_call 22; refine HK.out.mono ?_; rintro ev w' ⟨b, rfl, hq⟩)
  exact hq

set_option maxHeartbeats 4000000 in
/-- errors.As, up to what it calls: a number wanted. -/
theorem as_num_pre (Q : Ending → World → Prop) (T : Nat) (x : Value) (w : World) (t : Addr) (hE : ErrT w)
    (hk : Calls Tryd.prog 22 #[.iface T x, .iface 51 (.pointer (some t)), rvPN ⟨w.heap.size, 0, none⟩, .iface 69 (.agg #[.pointer (some ⟨4, 22, none⟩)])]
      ((w.alloc (.cells #[.pointer (some t)] 51)).alloc (.cells #[.pointer (some ⟨4, 51, none⟩), .pointer (some ⟨w.heap.size, 0, none⟩), .int .u64 150] 57)) fun ev w' => ∃ b, ev = .returned (.bool b) ∧ Q (.returned (.bool b)) w') :
    Calls Tryd.prog 14 #[.iface T x, .iface 51 (.pointer (some t))] w Q := by
  have h19 := @run_callFunc_extern Tryd.prog 19 _ (fun args => ReflectliteValue.unpack (args.getD 0 (.tuple #[]))) Tryd.func19 (by kernel_rfl) (by kernel_rfl) (by kernel_rfl) (by kernel_rfl)
  have h20 := @run_callFunc_extern Tryd.prog 20 _ (ReflectliteValue.methodAny (ReflectliteValue.valueError "reflectlite.Value.Type" 0) (fun t _ _ _ => ReflectliteType.toType t)) Tryd.func20 (by kernel_rfl) (by kernel_rfl) (by kernel_rfl) (by kernel_rfl)
  have h21 := @run_callFunc_extern Tryd.prog 21 _ (ReflectliteValue.method (ReflectliteValue.valueError "reflectlite.Value.IsNil" 0) ReflectliteValue.isNil) Tryd.func21 (by kernel_rfl) (by kernel_rfl) (by kernel_rfl) (by kernel_rfl)
  have h52 := @run_callFunc_extern Tryd.prog 54 _ (ReflectliteType.abiMethod fun t => do pure (.int .u8 (← Rtype.kind t))) Tryd.func54 (by kernel_rfl) (by kernel_rfl) (by kernel_rfl) (by kernel_rfl)
  have h70 := @run_callFunc_extern Tryd.prog 70 _ (ReflectliteType.method ReflectliteType.elem) Tryd.func70 (by kernel_rfl) (by kernel_rfl) (by kernel_rfl) (by kernel_rfl)
  have h71 := @run_callFunc_extern Tryd.prog 71 _ (ReflectliteType.relation "Implements" ReflectliteType.implements_) Tryd.func71 (by kernel_rfl) (by kernel_rfl) (by kernel_rfl) (by kernel_rfl)
  have f1 := valueOfPN
  have f2 := typePN
  have mK := methodKind
  have mE := methodElem
  have mI := methodImplements
  have k1 := kindPN
  have k2 := kindN
  have e1 := elemPN
  have i1 := implN
  have n1 := isNilPN ⟨w.heap.size, 0, none⟩ t ((w.alloc (.cells #[.pointer (some t)] 51)).alloc (.cells #[.pointer (some ⟨4, 51, none⟩), .pointer (some ⟨w.heap.size, 0, none⟩), .int .u64 150] 57)) (by simp)
  have hlt := lt_of_cell hE
  have hg2 : ErrT ((w.alloc (.cells #[.pointer (some t)] 51)).alloc (.cells #[.pointer (some ⟨4, 51, none⟩), .pointer (some ⟨w.heap.size, 0, none⟩), .int .u64 150] 57)) := (hE.on (below_alloc _ _)).on (below_alloc _ _)
  unfold ErrT at hg2
  unfold rvPN at hk
  clear hE hlt
  have HK := Lib.hid hk
  clear hk
  go_enter Tryd.func14, Tryd.ntmps14
  go_wp2_with (go_at_call 22; refine HK.out.mono ?_; rintro ev w' ⟨b, rfl, hq⟩)
  exact hq

theorem cell_set {W : World} {t : Addr} {old v : Value} (h : W.cell? t = some old) : (W.setCell t v).cell? t = some v := World.cell?_setCell_same' W t v (by rw [h]; rfl)

/-- errors.As of a fault's error with texts around it, a fault wanted. -/
theorem as_flt (w : World) (fb : Nat) (e a : Int) (l : List ByteArray) (v old : Value) (t : Addr) (hE : ErrT w) (hc : Chn w fb e a l v) (ht : w.cell? t = some old) (hf : w.frozen? t = false) :
    Calls Tryd.prog 14 #[v, .iface 50 (.pointer (some t))] w fun ev w' => ev = .returned (.bool true) ∧ w'.cell? t = some (.pointer (some ⟨fb, 0, none⟩)) ∧ Below t.block w w' := by
  have htl := lt_of_cell ht
  have hb1 : Below t.block w ((w.alloc (.cells #[.pointer (some t)] 50)).alloc (.cells #[.pointer (some ⟨4, 50, none⟩), .pointer (some ⟨w.heap.size, 0, none⟩), .int .u64 150] 57)) := ((Below.refl _ w).alloc (by omega) _).alloc (by simp; omega) _
  obtain ⟨T, y, rfl⟩ := hc.iface
  refine as_flt_pre _ T _ w t hE ?_
  refine (as_in_flt _ fb e a l _ _ old ⟨w.heap.size, 0, none⟩ t ((hc.alloc _).alloc _) (by simp) (by rw [World.cell?_alloc_lt _ _ t (by simp; omega), World.cell?_alloc_lt _ _ t htl]; exact ht) (by rw [World.frozen?_alloc_old _ _ t (by simp; omega), World.frozen?_alloc_old _ _ t (Nat.ne_of_lt htl)]; exact hf)).mono ?_
  rintro ev w' ⟨rfl, rfl⟩
  refine ⟨true, rfl, rfl, ?_, ?_⟩
  · exact cell_set (old := old) (by rw [World.cell?_alloc_lt _ _ t (by simp; omega), World.cell?_alloc_lt _ _ t (by simp; omega), World.cell?_alloc_lt _ _ t (by simp; omega), World.cell?_alloc_lt _ _ t htl]; exact ht)
  · exact ((hb1.alloc (by simp; omega) _).alloc (by simp; omega) _).setCell (Nat.le_refl _) _
/-- .. a number wanted; also of a number alone. -/
theorem as_num (w : World) (fb : Nat) (e a : Int) (l : List ByteArray) (v old : Value) (t : Addr) (hE : ErrT w) (hc : Chn w fb e a l v ∨ v = numE e) (ht : w.cell? t = some old) (hf : w.frozen? t = false) :
    Calls Tryd.prog 14 #[v, .iface 51 (.pointer (some t))] w fun ev w' => ev = .returned (.bool true) ∧ w'.cell? t = some (.int .i64 e) ∧ Below t.block w w' := by
  have htl := lt_of_cell ht
  have hb1 : Below t.block w ((w.alloc (.cells #[.pointer (some t)] 51)).alloc (.cells #[.pointer (some ⟨4, 51, none⟩), .pointer (some ⟨w.heap.size, 0, none⟩), .int .u64 150] 57)) := ((Below.refl _ w).alloc (by omega) _).alloc (by simp; omega) _
  obtain ⟨T, y, hTy⟩ : ∃ T y, v = .iface T y := by
    rcases hc with h | h
    · obtain ⟨T, y, h⟩ := h.iface; exact ⟨T, _, h⟩
    · exact ⟨_, _, h⟩
  have HK := as_in_num ((w.alloc (.cells #[.pointer (some t)] 51)).alloc (.cells #[.pointer (some ⟨4, 51, none⟩), .pointer (some ⟨w.heap.size, 0, none⟩), .int .u64 150] 57)) fb e a l v (.iface 51 (.pointer (some t))) old ⟨w.heap.size, 0, none⟩ t (hc.imp (fun h => (h.alloc _).alloc _) id) (by simp) (by rw [World.cell?_alloc_lt _ _ t (by simp; omega), World.cell?_alloc_lt _ _ t htl]; exact ht) (by rw [World.frozen?_alloc_old _ _ t (by simp; omega), World.frozen?_alloc_old _ _ t (Nat.ne_of_lt htl)]; exact hf)
  subst hTy
  refine as_num_pre _ T _ w t hE ?_
  refine HK.mono ?_
  rintro ev w' ⟨rfl, rfl⟩
  refine ⟨true, rfl, rfl, ?_, ?_⟩
  · exact cell_set (old := old) (by rw [World.cell?_alloc_lt _ _ t (by simp; omega), World.cell?_alloc_lt _ _ t (by simp; omega), World.cell?_alloc_lt _ _ t (by simp; omega), World.cell?_alloc_lt _ _ t htl]; exact ht)
  · exact ((hb1.alloc (by simp; omega) _).alloc (by simp; omega) _).setCell (Nat.le_refl _) _
/-- .. of a number alone, a fault wanted: false. -/
theorem as_flt_no (w : World) (e : Int) (t : Addr) (hE : ErrT w) :
    Calls Tryd.prog 14 #[numE e, .iface 50 (.pointer (some t))] w fun ev w' => ev = .returned (.bool false) ∧ Below w.heap.size w w' := by
  refine as_flt_pre _ _ _ w t hE ?_
  refine (as_in_flt_no _ e _ _).mono ?_
  rintro ev w' ⟨rfl, rfl⟩
  exact ⟨false, rfl, rfl, (((below_alloc w _).alloc (by simp) _).alloc (by simp; omega) _)⟩
/-- .. of an error of another kind, a number wanted: false. -/
theorem as_num_no (w : World) (y : Value) (t : Addr) (hE : ErrT w) :
    Calls Tryd.prog 14 #[.iface 43 y, .iface 51 (.pointer (some t))] w fun ev w' => ev = .returned (.bool false) ∧ Below w.heap.size w w' := by
  refine as_num_pre _ _ _ w t hE ?_
  refine (as_in_num_no _ y _ _).mono ?_
  rintro ev w' ⟨rfl, rfl⟩
  exact ⟨false, rfl, rfl, (((below_alloc w _).alloc (by simp) _).alloc (by simp; omega) _)⟩

/-! ### errors.Is -/
theorem eqNN (a b : Int) (w : World) : (binOp .eql 28 (.iface 22 (.int .i64 a)) (.iface 22 (.int .i64 b))).run Tryd.prog w = .ok (.bool (a == b)) w :=
  Lib.run_eql_iface_int w a b Tryd.underlying28 (by kernel_rfl) Tryd.underlying22
theorem eqFN (v y : Value) (w : World) : (binOp .eql 28 (.iface 38 v) (.iface 22 y)).run Tryd.prog w = .ok (.bool false) w := run_eql_iface_types _ _ v y Tryd.underlying28 (by decide) w
theorem eqWN (v y : Value) (w : World) : (binOp .eql 28 (.iface 45 v) (.iface 22 y)).run Tryd.prog w = .ok (.bool false) w := run_eql_iface_types _ _ v y Tryd.underlying28 (by decide) w

set_option maxHeartbeats 4000000 in
theorem is_in (w : World) (fb : Nat) (e a k : Int) (l : List ByteArray) (v : Value) (hc : Chn w fb e a l v ∨ v = numE e) :
    Calls Tryd.prog 24 #[v, numE k, .bool true] w fun ev w' => ev = .returned (.bool (e == k)) ∧ w' = w := by
  have e1 := eqNN
  have e2 := eqFN
  have e3 := eqWN
  have nW := noIsW
  have nF := noIsF
  have nN := noIsN
  have uW := hasUnW
  have uF := hasUnF
  have uN := noUnN
  have vN := noUnsN
  have mW := methodUnW
  have mF := methodUnF
  have C1 := Lib.hid hc
  clear hc
  unfold numE
  go_enter Tryd.func24, Tryd.ntmps24
  go_wp2
  go_loop [0] (fun u => (∃ r : List ByteArray, Chn w fb e a r u) ∨ u = numE e) (fun u => rankE u)
  case atStart => exact C1.out.imp (fun h => ⟨l, h⟩) id
  case round =>
    clear C1
    rcases hrel with ⟨r, hC⟩ | rfl
    · cases r with
      | nil =>
        obtain ⟨rfl, hB⟩ := hC
        unfold fltE
        go_wp2_with (go_at_call 13; refine (flt_unwrap _ fb e a hB).mono ?_; rintro ev w' ⟨rfl, rfl⟩; unfold numE)
        go_round
        case rel => exact Or.inr rfl
        case measure => unfold rankE; simp
      | cons s r =>
        obtain ⟨b, u, rfl, hB, hk, hC⟩ := hC
        obtain ⟨T, y, rfl⟩ := hC.iface
        unfold wrpE
        go_wp2_with (go_at_call 59; refine (wrp_unwrap _ b s T y hB).mono ?_; rintro ev w' ⟨rfl, rfl⟩)
        go_round
        case rel => exact Or.inl ⟨r, hC⟩
        case measure => unfold rankE at hk ⊢; simp at hk ⊢; omega
    · unfold numE
      by_cases hek : e = k
      · subst hek
        go_wp2
        go_ret
        exact ⟨by simp, rfl⟩
      · have hek' : (e == k) = false := by simpa using hek
        go_wp2
        go_ret
        exact ⟨by simp, rfl⟩

/-- What the library's Comparable does. -/
def cmpF : TypeId → Sem Value := fun t => do Rtype.noPackHeld "Comparable" t; pure (.bool (← typeInfo t).comparable)
theorem cmpN (w : World) : (ReflectliteType.method cmpF #[.agg #[.pointer (some ⟨4, 22, none⟩)]]).run Tryd.prog w = .ok (.bool true) w := by kernel_rfl
set_option maxHeartbeats 4000000 in
theorem is_ok (w : World) (fb : Nat) (e a k : Int) (l : List ByteArray) (v : Value) (hc : Chn w fb e a l v ∨ v = numE e) :
    Calls Tryd.prog 15 #[v, numE k] w fun ev w' => ev = .returned (.bool (e == k)) ∧ w' = w := by
  have h23 := @run_callFunc_extern Tryd.prog 23 _ ReflectliteType.typeOf Tryd.func23 (by kernel_rfl) (by kernel_rfl) (by kernel_rfl) (by kernel_rfl)
  have h69 := @run_callFunc_extern Tryd.prog 69 _ (ReflectliteType.method cmpF) Tryd.func69 (by kernel_rfl) (by kernel_rfl) (by kernel_rfl) (by kernel_rfl)
  have t1 := typeOfN
  have m1 := methodComparable
  have c1 := cmpN
  have HK := Lib.hid (is_in w fb e a k l v hc)
  obtain ⟨T, y, rfl⟩ : ∃ T y, v = .iface T y := by
    rcases hc with h | h
    · obtain ⟨T, y, h⟩ := h.iface; exact ⟨T, _, h⟩
    · exact ⟨_, _, h⟩
  clear hc
  unfold numE at *
  go_enter Tryd.func15, Tryd.ntmps15
  go_wp2_with (go_at_call 24; refine HK.out.mono ?_; rintro ev w' ⟨rfl, rfl⟩)
  go_ret
  exact ⟨rfl, rfl⟩
end Go.Proofs.YtabmckjlmpajoaaDoor
