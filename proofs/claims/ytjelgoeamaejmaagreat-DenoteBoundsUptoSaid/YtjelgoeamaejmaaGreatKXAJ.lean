/- A map from texts to fields that a call made itself: stored into, asked with 'ok'. -/
import Derived.Test.YtjelgoeamaejmaaGreatKXAI
import Derived.Maps.OwnSet
import Derived.Maps.Views
namespace Go.Proofs.YtjelgoeamaejmaaGreat
open Go.RowKit Go.Maps Go.WideMaps

def fV (f : Fl) : Value := .agg #[.string f.key, .int .i64 f.node, .bool f.opt]
def flD (f : Fl) : DataW Unit := .agg [.lit (.string f.key.data.toList), .lit (.int .i64 f.node), .lit (.bool f.opt)]
def zFl : Fl := ⟨⟨#[]⟩, 0, false⟩
/-- How a field reads. -/
def rdFl (v : Value) : Option (DataW Unit × List MemPlace) := match v with
  | .agg cs => (match cs.toList with
    | [.string s, .int .i64 z, .bool o] => some (.agg [.lit (.string s.data.toList), .lit (.int .i64 z), .lit (.bool o)], [])
    | _ => none)
  | _ => none
theorem rdFl_fV (f : Fl) : rdFl (fV f) = some (flD f, []) := rfl
theorem rdFl_inv {v : Value} {f : Fl} {ps : List MemPlace} (h : rdFl v = some (flD f, ps)) : v = fV f := by
  unfold rdFl at h
  split at h
  · next cs =>
    split at h
    · next s z o e =>
      injection h with h
      injection h with h _
      unfold flD at h
      injection h with h
      injection h with h1 h
      injection h with h2 h
      injection h with h3 _
      injection h1 with h1
      injection h1 with h1
      injection h2 with h2
      injection h2 with _ h2
      injection h3 with h3
      injection h3 with h3
      have hs : s = f.key := ByteArray.ext (Array.toList_inj.1 h1)
      subst hs h2 h3
      unfold fV
      congr 1
      exact Array.toList_inj.1 e
    · cases h
  · cases h
theorem field_zero1 (w : World) : (zeroValue 53).run Tryz.prog w = .ok (fV zFl) w := (zero_of_info (n := 3) (by kernel_rfl)).1 w
theorem strKeyedF : Keyed Tryz.prog 9 := string_keyed Tryz.underlying9
/-- Block b is a map of at most n texts, which holds what M says. -/
def MapF (w : World) (b n : Nat) (M : ByteArray → Option Fl) : Prop :=
  ∃ D : DataW Unit, w.ownsMap Tryz.prog 9 rdFl b n D ∧ ∀ s : ByteArray, s.size ≤ maxLen → D.atKey (.string s.data.toList) (flD zFl) = flD ((M s).getD zFl) ∧ has D (.string s.data.toList) = (M s).isSome
section
variable {w w' : World} {b n : Nat} {M : ByteArray → Option Fl}
theorem MapF.made (w : World) : MapF (w.alloc (.map #[] 0)) w.heap.size 0 fun _ => none :=
  ⟨.map [], World.ownsMap_made _ _ _ _, fun s _ => by simp [DataW.atKey, has]⟩
theorem MapF.lt (h : MapF w b n M) : b < w.heap.size := by obtain ⟨D, h, _⟩ := h; exact h.lt
theorem MapF.kept {row : Option Nat} (h : MapF w b n M) (hg : w.grownBy w' row) (hne : some b ≠ row) : MapF w' b n M := by
  obtain ⟨D, h1, h2⟩ := h
  exact ⟨D, h1.kept hg hne, h2⟩
theorem MapF.on (h : MapF w b n M) (hb : Below w.heap.size w w') : MapF w' b n M := h.kept (Only.ofBelow (g := b + 1) hb) (by simp)
theorem MapF.heap (h : MapF w b n M) (hb : w'.heap[b]? = w.heap[b]?) : MapF w' b n M := by
  obtain ⟨D, ⟨es, clock, h1, h2⟩, h3⟩ := h
  exact ⟨D, ⟨es, clock, hb.trans h1, h2⟩, h3⟩
theorem MapF.look (h : MapF w b n M) {s : ByteArray} (hs : s.size ≤ maxLen) : (Instr.lookup 104 (.map (some b)) (.string s) true).run Tryz.prog w = .ok (.tuple #[fV ((M s).getD zFl), .bool (M s).isSome]) w := by
  obtain ⟨D, h1, h2⟩ := h
  obtain ⟨v, ps, hrun, hv⟩ := h1.look_ok strKeyedF Tryz.underlying104 (field_zero1 w) (rdFl_fV zFl) (keyOf_string_mk Tryz.underlying9 hs)
  rw [(h2 s hs).2] at hrun
  rw [(h2 s hs).1] at hv
  rw [rdFl_inv hv] at hrun
  exact hrun
theorem lit_textF {s t : ByteArray} (h : (Lit.string s.data.toList) = .string t.data.toList) : s = t := by
  injection h with h
  exact ByteArray.ext (Array.toList_inj.1 h)
open Classical in
theorem MapF.store (h : MapF w b n M) {s : ByteArray} (hs : s.size ≤ maxLen) (hn : n < maxLen) (f : Fl) :
    ∃ w', (Instr.mapUpdate 104 (.map (some b)) (.string s) (fV f)).run Tryz.prog w = .ok () w' ∧ MapF w' b (n + 1) (fun t => if t = s then some f else M t) ∧ w.grownBy w' (some b) := by
  obtain ⟨D, h1, h2⟩ := h
  obtain ⟨w', hr, h3, h4⟩ := h1.update strKeyedF Tryz.underlying104 hn (keyOf_string_mk Tryz.underlying9 hs) (rdFl_fV f)
  refine ⟨w', hr, ⟨_, h3, fun t ht => ?_⟩, h4⟩
  by_cases e : t = s
  · subst e
    rw [atKey_put_same h1.isMap (by trivial), has_put_same h1.isMap (by trivial)]
    dsimp only
    rw [if_pos rfl]
    exact ⟨rfl, rfl⟩
  · rw [atKey_put_other (fun h => e (lit_textF h)), has_put_other (fun h => e (lit_textF h))]
    dsimp only
    rw [if_neg e]
    exact h2 t ht
end
/-- For an arm of the walk: a store into a map whose run is known. -/
theorem wpList_mapF_run {P : Program} {ops : Array Oper} {rest : List Oper} {o : Oper} {a : Act} {w w' : World} {Q : Exit → Act → World → Prop} (hgd : o.guard = none) {t : TypeId} {m x v : Operand} (ho : o.op = Op.mapUpdate t m x v) {vm vx vv : Value}
    (hr : (Instr.mapUpdate t vm vx vv).run P w = .ok () w') (hm : a.eval m = vm) (hx : a.eval x = vx) (hv : a.eval v = vv) (h : wpList P ops Q rest (a.put o.dst undef) w') : wpList P ops Q (o :: rest) a w :=
  wpList_plain hgd fun K hK => by
    unfold Oper.wp
    simp [execOp, ho, hm, hx, hv, hr, Result.andThen]
    exact hK _ _ h
/-! ### The fields by their keys, how many are needed -/
open Classical in
noncomputable def fM (fs : List Fl) (s : ByteArray) : Option Fl := fs.reverse.find? fun f => decide (f.key = s)
theorem fM_snoc (fs : List Fl) (f : Fl) (s : ByteArray) : fM (fs ++ [f]) s = if s = f.key then some f else fM fs s := by
  unfold fM
  rw [List.reverse_append, List.reverse_singleton, List.singleton_append, List.find?_cons]
  by_cases h : s = f.key
  · subst h; simp
  · rw [if_neg h, show decide (f.key = s) = false from decide_eq_false fun e => h e.symm]
theorem fM_mem {fs : List Fl} {s : ByteArray} {f : Fl} (h : fM fs s = some f) : f ∈ fs := by
  have := List.mem_of_find?_eq_some h
  rwa [List.mem_reverse] at this
def needF (fs : List Fl) : Nat := (fs.filter fun f => !f.opt).length
theorem needF_snoc (fs : List Fl) (f : Fl) : needF (fs ++ [f]) = needF fs + if f.opt = true then 0 else 1 := by
  unfold needF
  rw [List.filter_append, List.length_append]
  by_cases h : f.opt = true <;> simp [h]
theorem needF_le (fs : List Fl) : needF fs ≤ fs.length := List.length_filter_le _ _
end Go.Proofs.YtjelgoeamaejmaaGreat
