
/- A region that draws its order, by what holds between its operations. -/
import Derived.Test.YtobolfnokjekcaaItemM
import Derived.Orders
namespace Go.Proofs.Ytobolfnokjekcaa
open Go.RowKit

/-- Operation i has come up. -/
def Up (s : Array Bool) (i : Nat) : Prop := s.getD i false = true
instance (s : Array Bool) (i : Nat) : Decidable (Up s i) := by unfold Up; exact inferInstance
theorem up_set {s : Array Bool} {i j : Nat} (hi : i < s.size) : Up (s.setIfInBounds i true) j ↔ j = i ∨ Up s j := by
  unfold Up
  rw [Array.getD_eq_getD_getElem?, Array.getD_eq_getD_getElem?, Array.getElem?_setIfInBounds]
  by_cases h : i = j
  · subst h; simp [hi]
  · simp [h, Ne.symm h]
section
variable {P : Program} {md : Region.Mode} {ops : Array Oper} {Q : Exit → Act → World → Prop}
theorem any_of_inv (I : Array Bool → Act → World → Prop) (hsz : ∀ s a w, I s a w → s.size = ops.size)
    (hstep : ∀ s a w i, I s a w → i < ops.size → ¬ Up s i → (∀ o, ops[i]? = some o → ∀ e ∈ o.after, Region.binds md e = true → Up s e.on) → wpOp P ops Q i (fun b w' => I (s.setIfInBounds i true) b w') a w)
    (hend : ∀ s a w, I s a w → Region.ready md ops s = [] → Q .normal a w) :
    ∀ (f : Nat) (s : Array Bool) (a : Act) (w : World), I s a w → s.toList.count false ≤ f → wpAny P md ops Q f s a w := by
  intro f
  induction f with
  | zero =>
    intro s a w h hf
    have hr : Region.ready md ops s = [] := by
      rw [List.eq_nil_iff_forall_not_mem]
      intro i hi
      obtain ⟨h1, o, h2, _⟩ := mem_ready.1 hi
      have hlt : i < s.size := by rw [hsz _ _ _ h]; exact (Array.getElem?_eq_some_iff.1 h2).1
      have h3 : s[i] = false := by rw [Array.getD_eq_getD_getElem?, Array.getElem?_eq_getElem hlt] at h1; simpa using h1
      have h4 : false ∈ s.toList := by rw [← h3]; simp
      have := List.count_pos_iff.2 h4
      omega
    exact ⟨hr, hend _ _ _ h hr⟩
  | succ f ih =>
    intro s a w h hf
    refine ⟨hend _ _ _ h, fun i hi => ?_⟩
    obtain ⟨h1, o, h2, h3⟩ := mem_ready.1 hi
    have hlt : i < s.size := by rw [hsz _ _ _ h]; exact (Array.getElem?_eq_some_iff.1 h2).1
    have h4 : s[i] = false := by rw [Array.getD_eq_getD_getElem?, Array.getElem?_eq_getElem hlt] at h1; simpa using h1
    refine wpOp_mono (fun b w' hb => ih _ b w' hb ?_) (hstep s a w i h (by rw [← hsz _ _ _ h]; exact hlt) (by unfold Up; rw [Array.getD_eq_getD_getElem?, Array.getElem?_eq_getElem hlt]; simp [h4]) (fun o' ho' e he hb => by
      rw [h2] at ho'
      cases ho'
      exact h3 e he hb))
    rw [Array.toList_setIfInBounds, List.count_set (by simpa using hlt)]
    have h5 : s.toList[i]'(by simpa using hlt) = false := by simpa using h4
    have h6 := List.count_pos_iff.2 (show false ∈ s.toList by rw [← h4]; simp)
    rw [h5]
    show s.toList.count false - 1 + 0 ≤ f
    omega
/-- One operation, a load, a call, a making, a store: its run known. -/
theorem op_run {i : Nat} {o : Oper} {a : Act} {w w' : World} {K : Act → World → Prop} {v : Value} (ho : ops[i]? = some o) (hgd : o.guard = none) (hr : (execOp a.eval o).run P w = .ok (.value v) w') (h : K (a.put o.dst v) w') : wpOp P ops Q i K a w := by
  unfold wpOp
  rw [ho]
  simp only [Region.wanted, hgd]
  exact .inl (by unfold Oper.wp; rw [hr, Oper.upon_value]; exact h)
theorem op_skip {i : Nat} {o : Oper} {a : Act} {w w' : World} {K : Act → World → Prop} (ho : ops[i]? = some o) (hgd : o.guard = none) (hr : (execOp a.eval o).run P w = .ok .skip w') (h : K (a.put o.dst undef) w') : wpOp P ops Q i K a w := by
  unfold wpOp
  rw [ho]
  simp only [Region.wanted, hgd]
  exact .inl (by unfold Oper.wp; rw [hr, Oper.upon_skip]; exact h)
theorem op_call {i : Nat} {o : Oper} {a : Act} {w w' : World} {f : FuncId} {args : Array Value} {K : Act → World → Prop} (ho : ops[i]? = some o) (hgd : o.guard = none) (hr : (execOp a.eval o).run P w = .ok (.enter f args) w')
    (h : Calls P f args w' fun e w'' => ∃ v, e = .returned v ∧ K (a.put o.dst v) w'') : wpOp P ops Q i K a w := by
  unfold wpOp
  rw [ho]
  simp only [Region.wanted, hgd]
  refine .inl ?_
  unfold Oper.wp
  rw [hr, Oper.upon_enter]
  refine h.mono ?_
  rintro e w'' ⟨v, rfl, hk⟩
  exact hk
end
theorem eval_put_ne (a : Act) {d t : Nat} (v : Value) (h : t ≠ d) : (a.put (some d) v).eval (.tmp t) = a.eval (.tmp t) := by
  simp [Act.put, Act.eval, Array.getD_eq_getD_getElem?, Ne.symm h]
theorem eval_put (a : Act) {d : Nat} (v : Value) (h : d < a.tmps.size) : (a.put (some d) v).eval (.tmp d) = v := by
  simp [Act.put, Act.eval, Array.getD_eq_getD_getElem?, h]
end Go.Proofs.Ytobolfnokjekcaa
