/- Slices of numbers that the call itself appends to. -/
import Derived.Test.YtmihoeholcaokaaKAE
import Derived.Laws.OwnMore
import Derived.Laws.MakeOwn
import Derived.OwnWalk
namespace Go.Proofs.Ytmihoeholcaokaa
open Go.RowKit

/-- v is a slice of the call's own, in a block from B on, and reads as zs. -/
def Own (w : World) (B : Nat) (k : IntKind) (e : TypeId) (v : Value) (zs : List Int) : Prop := w.ownsRow B e 1 v zs.length (zs.map (Value.int k))
section
variable {w w' : World} {B g : Nat} {k : IntKind} {e : TypeId} {v : Value} {zs : List Int}
theorem Own.nil (w : World) (B : Nat) (k : IntKind) (e : TypeId) : Own w B k e (.slice none 0 0) [] := World.ownsRow_nil w B e 1
theorem Own.ofBlk (h : Blk w g e (nums k zs)) (hB : B ≤ g) (hl : zs.length ≤ maxLen) : Own w B k e (.slice (some ⟨g, 0, none⟩) zs.length zs.length) zs :=
  ⟨by simp, .inr ⟨g, zs.length, nums k zs, rfl, hB, h, Nat.le_refl _, hl, by rw [nums_size]; omega, by rw [nums_toList]; exact List.take_of_length_le (by simp)⟩⟩
/-- Its value, and how it reads. -/
theorem Own.form (h : Own w B k e v zs) : ∃ A cap, v = .slice A zs.length cap ∧ zs.length ≤ cap ∧ cap ≤ maxLen ∧ (A = none → cap = 0) ∧ (∀ p, A = some p → ∃ b, p = ⟨b, 0, none⟩ ∧ B ≤ b) ∧ Rd w w.heap.size k A zs := by
  obtain ⟨h1, h2⟩ := h
  rcases h2 with ⟨rfl, hz⟩ | ⟨g, cap, cur, rfl, hg, hh, hn, hc, hs, ht⟩
  · exact ⟨none, 0, by rw [hz], by omega, by unfold maxLen; omega, fun _ => rfl, (fun p hp => by cases hp), fun h => by omega⟩
  · refine ⟨some ⟨g, 0, none⟩, cap, rfl, hn, hc, fun h => (by cases h), fun p hp => ⟨g, by injection hp with hp; exact hp.symm, hg⟩, fun _ => ⟨g, 0, rfl, (Array.getElem?_eq_some_iff.1 hh).1, fun i hi => ?_⟩⟩
    rw [Nat.zero_add, cell_of_row w g i cur e (0, 0) hh]
    have e1 : cur[i]? = (cur.toList.take (zs.length * 1))[i]? := by rw [List.getElem?_take, if_pos (by omega)]; simp
    rw [e1, ht, List.getElem?_map]
    simp [List.getD, hi]
theorem Own.rdx (h : Own w B k e v zs) (hg : g < B) : ∃ A cap, v = .slice A zs.length cap ∧ zs.length ≤ cap ∧ (A = none → cap = 0) ∧ RdX w g k A zs := by
  obtain ⟨A, cap, hv, h1, _, h3, h4, h5⟩ := h.form
  refine ⟨A, cap, hv, h1, h3, fun hn => ?_⟩
  obtain ⟨b, o, hA, hb, hc⟩ := h5 hn
  obtain ⟨b', hp, hB⟩ := h4 _ hA
  injection hp with e1
  exact ⟨b, o, hA, by omega, hb, hc⟩
theorem Own.keep (h : Own w B k e v zs) (hb : ∀ i, B ≤ i → i < w.heap.size → w'.heap[i]? = w.heap[i]?) : Own w' B k e v zs := by
  obtain ⟨h1, h2⟩ := h
  refine ⟨h1, ?_⟩
  rcases h2 with h2 | ⟨g, cap, cur, hv, hg, hh, r⟩
  · exact .inl h2
  · exact .inr ⟨g, cap, cur, hv, hg, by rw [hb g hg (Array.getElem?_eq_some_iff.1 hh).1]; exact hh, r⟩
theorem Own.below (h : Own w B k e v zs) (hb : Below w.heap.size w w') : Own w' B k e v zs := h.keep fun i _ hi => hb.block i hi
theorem Own.only (h : Own w B k e v zs) (ho : Only g w w') (hg : g < B) : Own w' B k e v zs := h.keep fun i hB hi => ho.block i hi (fun e => by injection e with e; omega)
theorem Own.alloc (h : Own w B k e v zs) (ob : Obj) : Own (w.alloc ob) B k e v zs := h.keep fun i _ hi => Below.heap_alloc w ob i hi
theorem Own.drew (h : Own w B k e v zs) : Own w.drew B k e v zs := h
theorem Own.drewN (h : Own w B k e v zs) (n : Nat) : Own (w.drewN n) B k e v zs := h
/-- One of its numbers is written. -/
theorem Own.put (h : Own w B k e v zs) {j : Nat} (hj : j < zs.length) (x : Int) : ∃ g cap, v = .slice (some ⟨g, 0, none⟩) zs.length cap ∧ B ≤ g ∧ w.cell? ⟨g, j, none⟩ = some (.int k (zs.getD j 0)) ∧ w.frozen? ⟨g, j, none⟩ = false ∧
    Own (w.setCell ⟨g, j, none⟩ (.int k x)) B k e v (zs.set j x) ∧ Below B w (w.setCell ⟨g, j, none⟩ (.int k x)) := by
  have h' := h
  obtain ⟨h1, h2⟩ := h
  rcases h2 with ⟨_, hz⟩ | ⟨g, cap, cur, rfl, hg, hh, hn, hc, hs, ht⟩
  · omega
  · have hb : Blk w g e cur := hh
    refine ⟨g, cap, rfl, hg, ?_, hb.free j, ⟨by simp, .inr ⟨g, cap, cur.setIfInBounds j (.int k x), by simp, hg, hb.put j _, by simpa using hn, hc, by simpa using hs, ?_⟩⟩, (Below.refl _ _).setCell hg _⟩
    · rw [hb.cell]
      have e1 : cur[j]? = (cur.toList.take (zs.length * 1))[j]? := by rw [List.getElem?_take, if_pos (by omega)]; simp
      rw [e1, ht, List.getElem?_map]
      simp [List.getD, hj]
    · rw [List.length_set, Array.toList_setIfInBounds, List.take_set, ht, List.map_set]
/-- What an append to it leaves as it was. -/
theorem Own.grown (h : Own w B k e v zs) (hg : w.grownBy w' v.ownBlock) (hs : B ≤ w.heap.size) : Below B w w' := by
  refine ⟨hg.os, hg.tape, hg.output, hg.size, fun i hi => hg.block i (by omega) ?_⟩
  rcases h.2 with ⟨rfl, _⟩ | ⟨g, cap, cur, rfl, hB, hh, _⟩
  · simp [Value.ownBlock]
  · simp [Value.ownBlock]; omega
end

/-- One of an array's numbers. -/
theorem run_index_nums {P : Program} {t e : TypeId} {n : Nat} {k : IntKind} (hu : P.underlying t = some (.array n e)) (he : P.underlying e = some (.int k)) (hs : (P.info? e).map (·.size) = some 1) (zs : List Int) (i : Nat) (hi : i < n) (hl : zs.length = n) (w : World) :
    (Instr.index t (.agg (nums k zs)) (.int .i64 i)).run P w = .ok (.int k (zs.getD i 0)) w := by
  have hz : ∀ w, (sizeOf e).run P w = .ok 1 w := fun w => by
    cases hq : P.info? e with
    | none => simp [hq] at hs
    | some j =>
      have : j.size = 1 := by simpa [hq] using hs
      simp [sizeOf, typeInfo, hq, this]
  have hx : (nums k zs)[i]? = some (.int k (zs.getD i 0)) := nums_get k zs i (by omega)
  have ha : (isAgg e).run P w = .ok false w := by
    unfold isAgg
    rw [Sem.run_bind, run_underlying he w]
    rfl
  have hi' : (asIntOf (Value.int IntKind.i64 i)).run P w = .ok (.i64, (i : Int)) w := rfl
  have hx' : (nums k zs)[i]? = some (.int k (zs[i]?.getD 0)) := by rw [hx, List.getD_eq_getElem?_getD]
  simp [Instr.index, run_underlying hu, hz, part, ha, hi', hx', hi]

section
variable {P : Program}
/-- append of a slice of numbers to one of the call's own. -/
theorem run_append_nums {w : World} {B : Nat} {t ty e : TypeId} {k : IntKind} {bytes : Nat} {v : Value} {zs xs : List Int} {A : Option Addr} {cap : Nat} (ht : P.underlying t = some (.slice e))
    (hi : (P.info? e).map (fun i => (i.zero, i.size, i.bytes)) = some (some (.int k 0), 1, bytes)) (hby : bytes ≤ 8)
    (hown : Own w B k e v zs) (hr : Rd w w.heap.size k A xs) (hnil : A = none → cap = 0) (hsz : zs.length + xs.length ≤ 1099511627776) (hB : B ≤ w.heap.size) :
    ∃ v' w', (Builtin.append_ #[t, t] ty #[v, .slice A xs.length cap]).run P w = .ok v' w' ∧ Own w' B k e v' (zs ++ xs) ∧ Below B w w' ∧ w.grownBy w' v.ownBlock := by
  obtain ⟨i, hi0, hz0, hz1, hz2⟩ := info_parts hi
  have hm : (zs.length + xs.length) * bytes ≤ 140737488355328 := Nat.le_trans (Nat.mul_le_mul (by omega) hby) (by omega : 1099511627776 * 8 ≤ 140737488355328)
  cases A with
  | none =>
    obtain rfl := hnil rfl
    have hx : xs = [] := by
      rcases xs with _ | ⟨x, r⟩
      · rfl
      · obtain ⟨b, o, h, _⟩ := hr (by simp)
        cases h
    subst hx
    exact ⟨v, w, run_append_owned_none (P := P) w B t ty e i 1 ht hi0 v _ _ hown, by simpa using hown, Below.refl _ _, World.grownBy.refl _ _⟩
  | some ad =>
    have hc : ∀ j u, (xs.map (Value.int k))[j]? = some u → w.cell? (ad.add j) = some u := fun j u hj => by
      rw [List.getElem?_map] at hj
      rcases Nat.lt_or_ge j xs.length with hl | hl
      · obtain ⟨b, o, hA, _, hcell⟩ := hr (by omega)
        injection hA with hA
        subst hA
        rw [Addr.add_mid, hcell j hl]
        have e1 : xs[j]? = some (xs.getD j 0) := by simp [List.getD_eq_getElem?_getD, hl]
        rw [e1] at hj
        simpa using hj
      · rw [List.getElem?_eq_none hl] at hj
        cases hj
    obtain ⟨v', w', h1, h2, h3, _⟩ := run_append_own (P := P) w B t ty e i (.int k 0) 1 bytes ht hi0 hz0 hz1 hz2 rfl (by decide) v zs.length _ hown ad xs.length cap (xs.map (Value.int k)) (by simp) hc (ints_oneCell k xs) (by unfold maxLen; omega) hm hB
    refine ⟨v', w', h1, ?_, hown.grown h3 hB, h3⟩
    unfold Own
    rw [List.length_append, List.map_append]
    exact h2
/-- For an arm of the walk: a builtin whose run is known. -/
theorem wpList_append_run {ops : Array Oper} {rest : List Oper} {o : Oper} {a : Act} {w w' : World} {Q : Exit → Act → World → Prop} (hgd : o.guard = none) {s x : Operand} {t : TypeId}
    (ho : o.op = .call { callee := .builtin .append, args := #[s, x], argTypes := #[t, t] }) {v y v' : Value}
    (hr : (Builtin.append_ #[t, t] o.type #[v, y]).run P w = .ok v' w') (hs : a.eval s = v) (hx : a.eval x = y) (h : wpList P ops Q rest (a.put o.dst v') w') : wpList P ops Q (o :: rest) a w :=
  wpList_plain hgd fun K hK => by
    unfold Oper.wp
    simp only [execOp, ho, resolve, invoke, builtin, Sem.run_bind, Sem.run_pure, Result.andThen_ok, List.map_toArray, List.map_cons, List.map_nil, hs, hx, hr]
    exact hK _ _ h
/-- The same at a step of a region that draws its order. -/
theorem step_append_run {ops : Array Oper} {o : Oper} {a : Act} {w w' : World} {K : Act → World → Prop} {Q : Exit → Act → World → Prop} {E : Prop} (hgd : o.guard = none) {s x : Operand} {t : TypeId}
    (ho : o.op = .call { callee := .builtin .append, args := #[s, x], argTypes := #[t, t] }) {v y v' : Value}
    (hr : (Builtin.append_ #[t, t] o.type #[v, y]).run P w = .ok v' w') (hs : a.eval s = v) (hx : a.eval x = y) (h : K (a.put o.dst v') w') : if Region.wanted o (yielded ops a.tmps) = true then Oper.wp P o a w K Q else E := by
  have hw : Region.wanted o (yielded ops a.tmps) = true := by simp [Region.wanted, hgd]
  rw [if_pos hw]
  unfold Oper.wp
  simp only [execOp, ho, resolve, invoke, builtin, Sem.run_bind, Sem.run_pure, Result.andThen_ok, List.map_toArray, List.map_cons, List.map_nil, hs, hx, hr]
  exact h
end
end Go.Proofs.Ytmihoeholcaokaa
