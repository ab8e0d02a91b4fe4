/- Package schema: Leads. -/
import Derived.Test.YtjelgoeamaejmaaGreatKXAD
import Derived.Deep.OwnRows
namespace Go.Proofs.YtjelgoeamaejmaaGreat
open Go.RowKit Go.Sort

/-- A table of answers. -/
def bls (bs : List Bool) : Array Value := (bs.map Value.bool).toArray
theorem bls_get (bs : List Bool) (i : Nat) (hi : i < bs.length) : (bls bs)[i]? = some (.bool (bs.getD i false)) := by
  simp [bls, hi, List.getD_eq_getElem?_getD]
theorem bls_put (bs : List Bool) (i : Nat) (u : Bool) : (bls bs).setIfInBounds i (.bool u) = bls (bs.set i u) := by
  apply Array.ext'
  simp [bls, List.map_set]
theorem bls_made (n : Nat) : madeCells #[Value.bool false] n = bls (List.replicate n false) := by
  apply Array.ext
  · simp [size_madeCells, bls]
  · intro i h1 h2
    simp [madeCells, bls, Nat.mod_one]
theorem infoBool : (Tryz.prog.info? 4).map (fun i => (i.zero, i.size, i.bytes)) = some (some (.bool false), 1, 1) := by kernel_rfl
/-- The table when the first k nodes have been looked at. -/
def Tab (xs : List Nd) (a k m : Nat) (bs : List Bool) : Prop := bs.length = m ∧ ∀ j, j < m → (bs.getD j false = true ↔ Led xs a k j)
theorem getD_set (bs : List Bool) (i j : Nat) (u : Bool) (hi : i < bs.length) : (bs.set i u).getD j false = if i = j then u else bs.getD j false := by
  rw [List.getD_eq_getElem?_getD, List.getD_eq_getElem?_getD, List.getElem?_set]
  split
  · rename_i e; subst e; simp
  · rfl
theorem Tab.start {xs : List Nd} (hw : Wf xs) {a m : Nat} (ha : a < m) : Tab xs a a m ((List.replicate m false).set a true) := by
  refine ⟨by simp, fun j hj => ?_⟩
  rw [getD_set _ _ _ _ (by simpa using ha), led_start hw]
  split
  · rename_i e; simp [e]
  · rename_i e
    simp [List.getD_eq_getElem?_getD, hj]
    omega
theorem Tab.no {xs : List Nd} {a k m : Nat} {bs : List Bool} (h : Tab xs a k m bs) (hl : ¬ Ld xs a k) : Tab xs a (k + 1) m bs := ⟨h.1, fun j hj => (h.2 j hj).trans (led_no hl).symm⟩
/-- .. and of the next node's names the first q. -/
def TabQ (xs : List Nd) (a k m q : Nat) (L : List Int) (bs : List Bool) : Prop := bs.length = m ∧ ∀ j : Nat, j < m → (bs.getD j false = true ↔ Led xs a k j ∨ (j : Int) ∈ L.take q)
theorem TabQ.start {xs : List Nd} {a k m : Nat} {L : List Int} {bs : List Bool} (h : Tab xs a k m bs) : TabQ xs a k m 0 L bs := ⟨h.1, fun j hj => by simpa using h.2 j hj⟩
theorem TabQ.step {xs : List Nd} {a k m q : Nat} {L : List Int} {bs : List Bool} {t : Nat} (h : TabQ xs a k m q L bs) (ht : L[q]? = some (t : Int)) (hm : t < m) : TabQ xs a k m (q + 1) L (bs.set t true) := by
  obtain ⟨hq, he⟩ := List.getElem?_eq_some_iff.1 ht
  refine ⟨by simpa using h.1, fun j hj => ?_⟩
  rw [getD_set _ _ _ _ (by rw [h.1]; exact hm), List.take_succ_eq_append_getElem hq, he, List.mem_append, List.mem_singleton, ← or_assoc, ← h.2 j hj]
  split
  · rename_i e; simp [e]
  · rename_i e
    constructor
    · exact .inl
    · rintro (h | h)
      · exact h
      · omega
theorem TabQ.done {xs : List Nd} {a k m : Nat} {x : Nd} {bs : List Bool} (h : TabQ xs a k m (namedN x).length (namedN x) bs) (hl : Ld xs a k) (hx : xs[k]? = some x) : Tab xs a (k + 1) m bs :=
  ⟨h.1, fun j hj => by rw [h.2 j hj, List.take_length, led_yes hl hx]⟩

/-- What Leads tells. -/
noncomputable def leadsL (xs : List Nd) (a : Int) : List Int := if a < 0 ∨ (xs.length : Int) ≤ a then [] else ldL xs a.toNat xs.length
end Go.Proofs.YtjelgoeamaejmaaGreat
