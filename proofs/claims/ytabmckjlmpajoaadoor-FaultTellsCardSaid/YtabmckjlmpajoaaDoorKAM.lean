/- Slices that are cut and copied, whatever their memory, if it isn't that of block g. -/
import Derived.Test.YtabmckjlmpajoaaDoorKAL
import Derived.Laws.IdiomCopy
namespace Go.Proofs.YtabmckjlmpajoaaDoor
open Go.RowKit

/-- In w the memory at A, in no way in block g, reads as the numbers zs of kind k. -/
def RdX (w : World) (g : Nat) (k : IntKind) (A : Option Addr) (zs : List Int) : Prop :=
  0 < zs.length → ∃ b o, A = some ⟨b, o, none⟩ ∧ b ≠ g ∧ b < w.heap.size ∧ ∀ i, i < zs.length → w.cell? ⟨b, o + i, none⟩ = some (.int k (zs.getD i 0))
section
variable {w w' : World} {B g : Nat} {k : IntKind} {A : Option Addr} {zs : List Int}
theorem RdX.only (h : RdX w g k A zs) (ho : Only g w w') : RdX w' g k A zs := fun hn => by
  obtain ⟨b, o, hA, hb, hs, hc⟩ := h hn
  refine ⟨b, o, hA, hb, Nat.lt_of_lt_of_le hs ho.size, fun i hi => ?_⟩
  rw [← hc i hi]
  simp [World.cell?, ho.block b hs (fun e => hb (by injection e))]
theorem RdX.below (h : RdX w g k A zs) (hb : Below w.heap.size w w') : RdX w' g k A zs := h.only (Only.ofBelow hb)
theorem RdX.drew (h : RdX w g k A zs) : RdX w.drew g k A zs := h
/-- Kept while another block turns. -/
theorem RdX.other {j : Nat} (h : RdX w g k A zs) (h' : RdX w j k A zs) (ho : Only j w w') : RdX w' g k A zs := fun hn => by
  obtain ⟨b, o, hA, hb, hs, hc⟩ := h hn
  obtain ⟨b', o', hA', hb', _, _⟩ := h' hn
  rw [hA] at hA'
  injection hA' with e
  injection e with e1 e2
  subst e1 e2
  refine ⟨b, o, hA, hb, Nat.lt_of_lt_of_le hs ho.size, fun i hi => ?_⟩
  rw [← hc i hi]
  simp [World.cell?, ho.block b hs (fun e => hb' (by injection e))]
theorem Rd.x (h : Rd w B k A zs) (hg : B ≤ g) (hs : B ≤ w.heap.size) : RdX w g k A zs := fun hn => by
  obtain ⟨b, o, hA, hb, hc⟩ := h hn
  exact ⟨b, o, hA, by omega, by omega, hc⟩
theorem RdX.rd (h : RdX w g k A zs) : Rd w w.heap.size k A zs := fun hn => by
  obtain ⟨b, o, hA, _, hs, hc⟩ := h hn
  exact ⟨b, o, hA, hs, hc⟩
theorem Blk.rdx {j : Nat} {t : TypeId} (h : Blk w j t (nums k zs)) (hj : j ≠ g) : RdX w g k (some ⟨j, 0, none⟩) zs :=
  fun _ => ⟨j, 0, rfl, hj, h.lt, fun i hi => by rw [Nat.zero_add, h.cell, nums_get k zs i hi]⟩
theorem RdX.nil : RdX w g k A [] := fun h => absurd h (by simp)
end

/-- The address of a slice that is cut n on. -/
def cutA (A : Option Addr) (n cap : Nat) : Option Addr := if cap = n then A else A.map (·.add n)
theorem getD_drop (zs : List Int) (n i : Nat) : (zs.drop n).getD i 0 = zs.getD (n + i) 0 := by
  simp [List.getD_eq_getElem?_getD, List.getElem?_drop]
theorem getD_take (zs : List Int) (n i : Nat) (h : i < n) : (zs.take n).getD i 0 = zs.getD i 0 := by
  simp [List.getD_eq_getElem?_getD, h]
theorem RdX.cut {w : World} {g : Nat} {k : IntKind} {A : Option Addr} {zs : List Int} (h : RdX w g k A zs) (n cap : Nat) (hc : zs.length ≤ cap) : RdX w g k (cutA A n cap) (zs.drop n) := fun hn => by
  rw [List.length_drop] at hn
  obtain ⟨b, o, rfl, hb, hs, hcell⟩ := h (by omega)
  refine ⟨b, o + n, ?_, hb, hs, fun i hi => ?_⟩
  · unfold cutA
    rw [if_neg (by omega)]
    show some (Addr.add _ n) = _
    rw [Addr.add_mid]
  · rw [List.length_drop] at hi
    rw [getD_drop, Nat.add_assoc]
    exact hcell (n + i) (by omega)
theorem Rd.cut {w : World} {B : Nat} {k : IntKind} {A : Option Addr} {zs : List Int} (h : Rd w B k A zs) (n cap : Nat) (hc : zs.length ≤ cap) : Rd w B k (cutA A n cap) (zs.drop n) := fun hn => by
  rw [List.length_drop] at hn
  obtain ⟨b, o, rfl, hb, hcell⟩ := h (by omega)
  refine ⟨b, o + n, ?_, hb, fun i hi => ?_⟩
  · unfold cutA
    rw [if_neg (by omega)]
    show some (Addr.add _ n) = _
    rw [Addr.add_mid]
  · rw [List.length_drop] at hi
    rw [getD_drop, Nat.add_assoc]
    exact hcell (n + i) (by omega)

section
variable {P : Program}
theorem run_cut {t elem : TypeId} (hu : P.underlying t = some (.slice elem)) (hs : (P.info? elem).map (·.size) = some 1) (w : World) (A : Option Addr) (len cap n : Nat) (ni : Int) (hni : ni = n) (hn : n ≤ len) :
    (Instr.sliceAt t (.slice A len cap) (some (.int .i64 ni)) none none).run P w = .ok (.slice (cutA A n cap) (len - n) (cap - n)) w := by
  subst hni
  have hz : ∀ w, (sizeOf elem).run P w = .ok 1 w := fun w => by
    cases hq : P.info? elem with
    | none => simp [hq] at hs
    | some i =>
      have : i.size = 1 := by simpa [hq] using hs
      simp [sizeOf, typeInfo, hq, this]
  have he : P.elem t = elem := by simp [Program.elem, hu]
  rw [run_sliceAt_slice w t _ _ _ _ (by rw [he]; exact hu), run_slice_l w t A len cap (by rw [he]; exact hu) .i64 n (by omega) (by omega), he, hz]
  simp [sliced, cutA]

/-- copy into block g, from o on. -/
theorem run_copy_blk {dT sT ty elem t : TypeId} {w : World} {g o n c : Nat} {cur : Array Value} {A : Option Addr} {zs : List Int} {cap : Nat} {k : IntKind} (hu : P.underlying dT = some (.slice elem)) (hs : (P.info? elem).map (·.size) = some 1)
    (hg : Blk w g t cur) (hr : RdX w g k A zs) (hfit : o + n ≤ cur.size) :
    (Builtin.copy_ #[dT, sT] ty #[.slice (some ⟨g, o, none⟩) n c, .slice A zs.length cap]).run P w =
      .ok (goInt (Nat.min zs.length n)) (w.setRow g (cur.toList.take o ++ (zs.take n).map (Value.int k) ++ cur.toList.drop (o + Nat.min zs.length n)).toArray) := by
  have hlen : (zs.take n).length = Nat.min zs.length n := by rw [List.length_take]; exact Nat.min_comm _ _
  by_cases h0 : Nat.min zs.length n = 0
  · rw [run_copy_none _ dT sT ty elem _ _ _ _ _ _ hu hs h0, h0]
    have e : zs.take n = [] := List.eq_nil_of_length_eq_zero (by rw [hlen]; exact h0)
    rw [e]
    simp only [List.map_nil, List.append_nil, Nat.add_zero, List.take_append_drop, Array.toArray_toList]
    rw [setRow_self w g cur t _ hg]
    rfl
  · have h0' : min zs.length n ≠ 0 := h0
    obtain ⟨b, p, rfl, hb, hsz, hc⟩ := hr (by omega)
    have hm : Nat.min zs.length n ≤ n := Nat.min_le_right _ _
    rw [run_copy_row (P := P) _ dT sT ty elem g o n c ⟨b, p, none⟩ zs.length cap cur t ((zs.take n).map (Value.int k)) hu hs hg (by rw [List.length_map]; exact hlen) ?_ (by rw [List.length_map, hlen]; omega) ?_]
    · rw [List.length_map, hlen]
    · intro j v hj
      rw [List.getElem?_map] at hj
      have hj' : j < (zs.take n).length := by
        rcases Nat.lt_or_ge j (zs.take n).length with h | h
        · exact h
        · rw [List.getElem?_eq_none h] at hj; cases hj
      rw [List.length_take] at hj'
      have hv := hc j (by omega)
      rw [List.getElem?_take, if_pos (by omega)] at hj
      have e : zs[j]? = some (zs.getD j 0) := by simp [List.getD_eq_getElem?_getD, show j < zs.length by omega]
      rw [e] at hj
      simp only [Option.map_some, Option.some.injEq] at hj
      subst hj
      rw [Addr.add_mid]
      exact hv
    · intro v hv
      rw [List.mem_map] at hv
      obtain ⟨c, _, rfl⟩ := hv
      rfl
end
end Go.Proofs.YtabmckjlmpajoaaDoor
