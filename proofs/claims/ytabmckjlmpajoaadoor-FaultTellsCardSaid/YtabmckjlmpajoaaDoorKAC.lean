/- errors.As and errors.Is by their texts, over the errors of package fault. -/
import Derived.Test.YtabmckjlmpajoaaDoorKAB
namespace Go.Proofs.YtabmckjlmpajoaaDoor
open Go.RowKit Go.Extern.Stop Go.Stop Go.Extern

theorem flt_unwrap (w : World) (b : Nat) (e a : Int) (h : Blk w b 40 #[.int .i64 e, .int .i64 a]) :
    Calls Tryd.prog 13 #[.pointer (some ⟨b, 0, none⟩)] w fun ev w' => ev = .returned (numE e) ∧ w' = w := by
  have c0 : w.cell? ⟨b, 0, none⟩ = some (.int .i64 e) := h.cell 0
  go_enter Tryd.func13, Tryd.ntmps13
  go_wp2
  go_ret
  exact ⟨rfl, rfl⟩
theorem wrp_unwrap (w : World) (b : Nat) (s : ByteArray) (T x : Nat) (h : Blk w b 48 #[.string s, .iface T (.pointer (some ⟨x, 0, none⟩))]) :
    Calls Tryd.prog 59 #[.pointer (some ⟨b, 0, none⟩)] w fun ev w' => ev = .returned (.iface T (.pointer (some ⟨x, 0, none⟩))) ∧ w' = w := by
  have c1 : w.cell? ⟨b, 1, none⟩ = some (.iface T (.pointer (some ⟨x, 0, none⟩))) := h.cell 1
  go_enter Tryd.func59, Tryd.ntmps59
  go_wp2
  go_ret
  exact ⟨rfl, rfl⟩

/-- What the look at types laid: the value's own variable, and what it stands for. -/
def rvFF (a : Addr) : Value := .agg #[.pointer (some ⟨4, 50, none⟩), .pointer (some a), .int .u64 150]
def rvPN (a : Addr) : Value := .agg #[.pointer (some ⟨4, 51, none⟩), .pointer (some a), .int .u64 150]
theorem lt_of_cell {w : World} {p : Addr} {v : Value} (h : w.cell? p = some v) : p.block < w.heap.size := by
  rcases Nat.lt_or_ge p.block w.heap.size with h' | h'
  · exact h'
  · simp [World.cell?, Array.getElem?_eq_none h'] at h

set_option maxHeartbeats 4000000 in
/-- errors.as, a fault wanted. -/
theorem as_in_flt (w : World) (fb : Nat) (e a : Int) (l : List ByteArray) (v x old : Value) (va t : Addr) (hc : Chn w fb e a l v) (ha : w.cell? va = some (.pointer (some t))) (ht : w.cell? t = some old) (hf : w.frozen? t = false) :
    Calls Tryd.prog 22 #[v, x, rvFF va, .iface 69 (.agg #[.pointer (some ⟨4, 38, none⟩)])] w fun ev w' => ev = .returned (.bool true) ∧
      w' = ((w.alloc (.cells #[.pointer (some ⟨4, 50, none⟩), .pointer (some va), .int .u64 150] 57)).alloc (.cells #[.pointer (some ⟨fb, 0, none⟩)] 38)).setCell t (.pointer (some ⟨fb, 0, none⟩)) := by
  have h19 := @run_callFunc_extern Tryd.prog 19 _ (fun args => ReflectliteValue.unpack (args.getD 0 (.tuple #[]))) Tryd.func19 (by kernel_rfl) (by kernel_rfl) (by kernel_rfl) (by kernel_rfl)
  have h23 := @run_callFunc_extern Tryd.prog 23 _ ReflectliteType.typeOf Tryd.func23 (by kernel_rfl) (by kernel_rfl) (by kernel_rfl) (by kernel_rfl)
  have h68 := @run_callFunc_extern Tryd.prog 68 _ (ReflectliteType.relation "AssignableTo" ReflectliteType.assignableTo) Tryd.func68 (by kernel_rfl) (by kernel_rfl) (by kernel_rfl) (by kernel_rfl)
  have h26 := @run_callFunc_extern Tryd.prog 26 _ (ReflectliteValue.method (ReflectliteValue.valueError "reflectlite.Value.Elem" 0) ReflectliteValue.elem) Tryd.func26 (by kernel_rfl) (by kernel_rfl) (by kernel_rfl) (by kernel_rfl)
  have h27 := @run_callFunc_extern Tryd.prog 27 _ ReflectliteValue.set Tryd.func27 (by kernel_rfl) (by kernel_rfl) (by kernel_rfl) (by kernel_rfl)
  have mA := methodAssignableTo
  have tF := typeOfF
  have tW := typeOfW
  have aF := asgFF
  have aW := asgWF
  have nW := noAsW
  have uW := hasUnW
  have mW := methodUnW
  have vF := valueOfF
  have hva := lt_of_cell ha
  have htl := lt_of_cell ht
  have C1 := hc.alloc (.cells #[.pointer (some ⟨4, 50, none⟩), .pointer (some va), .int .u64 150] 57)
  have el := elemVFF va t (w.alloc (.cells #[.pointer (some ⟨4, 50, none⟩), .pointer (some va), .int .u64 150] 57)) (by rw [World.cell?_alloc_lt _ _ va hva]; exact ha)
  have st := setF t ⟨w.heap.size + 1, 0, none⟩ ⟨fb, 0, none⟩ old ((w.alloc (.cells #[.pointer (some ⟨4, 50, none⟩), .pointer (some va), .int .u64 150] 57)).alloc (.cells #[.pointer (some ⟨fb, 0, none⟩)] 38))
    (by rw [World.cell?_alloc_at _ _ _ _ (by simp)]; rfl)
    (by rw [World.cell?_alloc_lt _ _ t (by simp; omega), World.cell?_alloc_lt _ _ t htl]; exact ht)
    (by rw [World.frozen?_alloc_old _ _ t (by simp; omega), World.frozen?_alloc_old _ _ t (Nat.ne_of_lt htl)]; exact hf)
  clear ha ht hf hva htl
  unfold rvFF
  go_enter Tryd.func22, Tryd.ntmps22
  go_wp2
  clear hc
  go_loop [0] (fun u => ∃ r : List ByteArray, Chn (w.alloc (.cells #[.pointer (some ⟨4, 50, none⟩), .pointer (some va), .int .u64 150] 57)) fb e a r u) (fun u => rankE u)
  case atStart => exact ⟨l, C1⟩
  case round =>
    obtain ⟨r, hC⟩ := hrel
    cases r with
    | nil =>
      obtain ⟨rfl, hB⟩ := hC
      unfold fltE
      go_wp2
      go_ret
      exact ⟨rfl, rfl⟩
    | cons s r =>
      obtain ⟨b, u, rfl, hB, hk, hC⟩ := hC
      obtain ⟨T, y, rfl⟩ := hC.iface
      unfold wrpE
      go_wp2_with (go_at_call 59; refine (wrp_unwrap _ b s T y hB).mono ?_; rintro ev w' ⟨rfl, rfl⟩)
      go_round
      case rel => exact ⟨r, hC⟩
      case measure => unfold rankE at hk ⊢; simp at hk ⊢; omega
set_option maxHeartbeats 4000000 in
/-- errors.as, a number wanted. -/
theorem as_in_num (w : World) (fb : Nat) (e a : Int) (l : List ByteArray) (v x old : Value) (va t : Addr) (hc : Chn w fb e a l v ∨ v = numE e) (ha : w.cell? va = some (.pointer (some t))) (ht : w.cell? t = some old) (hf : w.frozen? t = false) :
    Calls Tryd.prog 22 #[v, x, rvPN va, .iface 69 (.agg #[.pointer (some ⟨4, 22, none⟩)])] w fun ev w' => ev = .returned (.bool true) ∧
      w' = ((w.alloc (.cells #[.pointer (some ⟨4, 51, none⟩), .pointer (some va), .int .u64 150] 57)).alloc (.cells #[.int .i64 e] 22)).setCell t (.int .i64 e) := by
  have h19 := @run_callFunc_extern Tryd.prog 19 _ (fun args => ReflectliteValue.unpack (args.getD 0 (.tuple #[]))) Tryd.func19 (by kernel_rfl) (by kernel_rfl) (by kernel_rfl) (by kernel_rfl)
  have h23 := @run_callFunc_extern Tryd.prog 23 _ ReflectliteType.typeOf Tryd.func23 (by kernel_rfl) (by kernel_rfl) (by kernel_rfl) (by kernel_rfl)
  have h68 := @run_callFunc_extern Tryd.prog 68 _ (ReflectliteType.relation "AssignableTo" ReflectliteType.assignableTo) Tryd.func68 (by kernel_rfl) (by kernel_rfl) (by kernel_rfl) (by kernel_rfl)
  have h26 := @run_callFunc_extern Tryd.prog 26 _ (ReflectliteValue.method (ReflectliteValue.valueError "reflectlite.Value.Elem" 0) ReflectliteValue.elem) Tryd.func26 (by kernel_rfl) (by kernel_rfl) (by kernel_rfl) (by kernel_rfl)
  have h27 := @run_callFunc_extern Tryd.prog 27 _ ReflectliteValue.set Tryd.func27 (by kernel_rfl) (by kernel_rfl) (by kernel_rfl) (by kernel_rfl)
  have mA := methodAssignableTo
  have tF := typeOfF
  have tW := typeOfW
  have tN := typeOfN
  have aF := asgFN
  have aW := asgWN
  have aN := asgNN
  have nW := noAsW
  have nF := noAsF
  have uW := hasUnW
  have uF := hasUnF
  have mW := methodUnW
  have mF := methodUnF
  have vF := valueOfN
  have hva := lt_of_cell ha
  have htl := lt_of_cell ht
  have C1 : (Chn (w.alloc (.cells #[.pointer (some ⟨4, 51, none⟩), .pointer (some va), .int .u64 150] 57)) fb e a l v ∨ v = numE e) := hc.imp (fun h => h.alloc _) id
  have el := elemVPN va t (w.alloc (.cells #[.pointer (some ⟨4, 51, none⟩), .pointer (some va), .int .u64 150] 57)) (by rw [World.cell?_alloc_lt _ _ va hva]; exact ha)
  have st := setN t ⟨w.heap.size + 1, 0, none⟩ e old ((w.alloc (.cells #[.pointer (some ⟨4, 51, none⟩), .pointer (some va), .int .u64 150] 57)).alloc (.cells #[.int .i64 e] 22))
    (by rw [World.cell?_alloc_at _ _ _ _ (by simp)]; rfl)
    (by rw [World.cell?_alloc_lt _ _ t (by simp; omega), World.cell?_alloc_lt _ _ t htl]; exact ht)
    (by rw [World.frozen?_alloc_old _ _ t (by simp; omega), World.frozen?_alloc_old _ _ t (Nat.ne_of_lt htl)]; exact hf)
  clear ha ht hf hva htl
  unfold rvPN
  go_enter Tryd.func22, Tryd.ntmps22
  go_wp2
  clear hc
  go_loop [0] (fun u => (∃ r : List ByteArray, Chn (w.alloc (.cells #[.pointer (some ⟨4, 51, none⟩), .pointer (some va), .int .u64 150] 57)) fb e a r u) ∨ u = numE e) (fun u => rankE u)
  case atStart => exact C1.imp (fun h => ⟨l, h⟩) id
  case round =>
    rcases hrel with ⟨r, hC⟩ | rfl
    · cases r with
      | nil =>
        obtain ⟨rfl, hB⟩ := hC
        unfold fltE
        go_wp2_with (go_at_call 13; refine (flt_unwrap _ fb e a hB).mono ?_; rintro ev w' ⟨rfl, rfl⟩; unfold numE)
        go_round
        case rel => exact Or.inr rfl
        case measure => unfold rankE; simp
      | cons s r =>
        obtain ⟨b, u, rfl, hB, hk, hC⟩ := hC
        obtain ⟨T, y, rfl⟩ := hC.iface
        unfold wrpE
        go_wp2_with (go_at_call 59; refine (wrp_unwrap _ b s T y hB).mono ?_; rintro ev w' ⟨rfl, rfl⟩)
        go_round
        case rel => exact Or.inl ⟨r, hC⟩
        case measure => unfold rankE at hk ⊢; simp at hk ⊢; omega
    · unfold numE
      go_wp2
      go_ret
      exact ⟨rfl, rfl⟩

set_option maxHeartbeats 4000000 in
/-- errors.as of a number alone, a fault wanted: there is none. -/
theorem as_in_flt_no (w : World) (e : Int) (x : Value) (va : Addr) :
    Calls Tryd.prog 22 #[numE e, x, rvFF va, .iface 69 (.agg #[.pointer (some ⟨4, 38, none⟩)])] w fun ev w' => ev = .returned (.bool false) ∧
      w' = (w.alloc (.cells #[.pointer (some ⟨4, 50, none⟩), .pointer (some va), .int .u64 150] 57)) := by
  have h23 := @run_callFunc_extern Tryd.prog 23 _ ReflectliteType.typeOf Tryd.func23 (by kernel_rfl) (by kernel_rfl) (by kernel_rfl) (by kernel_rfl)
  have h68 := @run_callFunc_extern Tryd.prog 68 _ (ReflectliteType.relation "AssignableTo" ReflectliteType.assignableTo) Tryd.func68 (by kernel_rfl) (by kernel_rfl) (by kernel_rfl) (by kernel_rfl)
  have mA := methodAssignableTo
  have tN := typeOfN
  have aN := asgNF
  have nN := noAsN
  have uN := noUnN
  have vN := noUnsN
  unfold rvFF numE
  go_enter Tryd.func22, Tryd.ntmps22
  go_wp2
  refine wp_loop_rounds 1 ?_
  rw [rounds_succ]
  go_wp2
  go_ret
  exact ⟨rfl, rfl⟩

set_option maxHeartbeats 4000000 in
/-- errors.as of an error of another kind, a number wanted: there is none. -/
theorem as_in_num_no (w : World) (y x : Value) (va : Addr) :
    Calls Tryd.prog 22 #[.iface 43 y, x, rvPN va, .iface 69 (.agg #[.pointer (some ⟨4, 22, none⟩)])] w fun ev w' => ev = .returned (.bool false) ∧
      w' = (w.alloc (.cells #[.pointer (some ⟨4, 51, none⟩), .pointer (some va), .int .u64 150] 57)) := by
  have h23 := @run_callFunc_extern Tryd.prog 23 _ ReflectliteType.typeOf Tryd.func23 (by kernel_rfl) (by kernel_rfl) (by kernel_rfl) (by kernel_rfl)
  have h68 := @run_callFunc_extern Tryd.prog 68 _ (ReflectliteType.relation "AssignableTo" ReflectliteType.assignableTo) Tryd.func68 (by kernel_rfl) (by kernel_rfl) (by kernel_rfl) (by kernel_rfl)
  have mA := methodAssignableTo
  have tO := typeOfO
  have aO := asgON
  have nO := noAsO
  have uO := noUnO
  have vO := noUnsO
  unfold rvPN
  go_enter Tryd.func22, Tryd.ntmps22
  go_wp2
  refine wp_loop_rounds 1 ?_
  rw [rounds_succ]
  go_wp2
  go_ret
  exact ⟨rfl, rfl⟩
end Go.Proofs.YtabmckjlmpajoaaDoor
