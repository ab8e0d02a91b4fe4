/- The document's example of schemas. -/
import Derived.Test.YtjelgoeamaejmaaGreatKBA
namespace Go.Proofs.YtjelgoeamaejmaaGreat
open Go.RowKit

/-- The example. -/
def aw : List Nd := [⟨10, 0, 0, zIt, [1, 2], []⟩, ⟨3, 0, 9, zIt, [], []⟩, ⟨6, 0, 9, zIt, [2], []⟩]
theorem okI_z : okI 1048576 zIt := by
  refine ⟨by simp [zIt, It.count, countL], fun d p hp => ?_⟩
  simp only [zIt, It.items, itemsL, List.mem_cons, List.not_mem_nil, or_false] at hp
  subst hp
  exact ⟨Int.le_refl _, by show (0 : Int) < _; omega, Nat.zero_le _⟩
theorem aw_ok : ∀ x ∈ aw, okN x := by
  intro x hx
  simp only [aw, List.mem_cons, List.not_mem_nil, or_false] at hx
  rcases hx with rfl | rfl | rfl <;> exact ⟨okI_z, fun y hy => (by cases hy), by simp⟩
theorem keys_nil : keysN [] = 0 := rfl
theorem aw_vals : checkE chI aw = 13 ∧ checkI chI aw = 2 := by
  have e0 : errN chI aw 0 = 0 := by
    rw [errN_some (x := ⟨10, 0, 0, zIt, [1, 2], []⟩) rfl]
    have hf : formN chI ⟨10, 0, 0, zIt, [1, 2], []⟩ = true := by simp [formN, Nd.of, sameN]
    simp [wrongN, hf, rangedN, keys_nil, nameE, namedN, nameB, aw]
  have e1 : errN chI aw 1 = 0 := by
    rw [errN_some (x := ⟨3, 0, 9, zIt, [], []⟩) rfl]
    have hf : formN chI ⟨3, 0, 9, zIt, [], []⟩ = true := by simp [formN, Nd.of, sameN]
    simp [wrongN, hf, rangedN, keys_nil, nameE, namedN]
  have e2 : wrongN chI ⟨6, 0, 9, zIt, [2], []⟩ (2 : Nat) aw.length = 13 := by
    have hf : formN chI ⟨6, 0, 9, zIt, [2], []⟩ = true := by simp [formN, Nd.of, sameN]
    simp [wrongN, hf, rangedN, keys_nil, nameE, namedN, nameB]
  have h := checkE_at (ch := chI) (xs := aw) (k := 2) (by simp [aw]) (fun j hj => by
    rcases (by omega : j = 0 ∨ j = 1) with rfl | rfl
    · exact e0
    · exact e1) rfl (by rw [e2]; decide)
  rw [e2] at h
  exact h
def awc : Nat → Array Value := fun g => #[.int .i64 10, .int .i64 0, .int .i64 0, .int .i64 0, .int .u64 0, .string ⟨#[]⟩, .slice none 0 0, .slice (some ⟨g, 0, none⟩) 2 2, .slice none 0 0,
  .int .i64 3, .int .i64 0, .int .i64 9, .int .i64 0, .int .u64 0, .string ⟨#[]⟩, .slice none 0 0, .slice none 0 0, .slice none 0 0,
  .int .i64 6, .int .i64 0, .int .i64 9, .int .i64 0, .int .u64 0, .string ⟨#[]⟩, .slice none 0 0, .slice (some ⟨g + 1, 0, none⟩) 1 1, .slice none 0 0]
theorem aw_at (w : World) : ∃ w1, ((w.alloc (.cells #[.int .i64 1, .int .i64 2] 3)).alloc (.cells #[.int .i64 2] 3)).alloc (.cells (awc w.heap.size) 47) = w1 ∧ RdN w1 w1.heap.size (some ⟨w.heap.size + 2, 0, none⟩) aw ∧ Below w.heap.size w w1 := by
  refine ⟨_, rfl, ?_, ((below_alloc w _).alloc (by simp) _).alloc (by simp; omega) _⟩
  have b0 := ((Blk.fresh w 3 (nums .i64 [1, 2])).alloc (.cells #[.int .i64 2] 3)).alloc (.cells (awc w.heap.size) 47)
  have b1 := (Blk.freshAt (w.alloc (.cells #[.int .i64 1, .int .i64 2] 3)) 3 (nums .i64 [2]) (w.heap.size + 1) (by simp)).alloc (.cells (awc w.heap.size) 47)
  have b2 := Blk.freshAt ((w.alloc (.cells #[.int .i64 1, .int .i64 2] 3)).alloc (.cells #[.int .i64 2] 3)) 47 (awc w.heap.size) (w.heap.size + 2) (by simp)
  intro _
  refine ⟨w.heap.size + 2, 0, rfl, b2.lt, b2.lt, fun i x hx => ?_⟩
  have hi := (List.getElem?_eq_some_iff.1 hx).1
  have r0 := b0.rd
  have r1 := b1.rd
  rcases (by simp [aw] at hi; omega : i = 0 ∨ i = 1 ∨ i = 2) with rfl | rfl | rfl
  · obtain rfl : (⟨10, 0, 0, zIt, [1, 2], []⟩ : Nd) = x := by injection hx
    refine ⟨⟨none, 0, some ⟨w.heap.size, 0, none⟩, 2, none, 0⟩, ⟨zIt_at _ _, r0, Nat.le_refl _, (fun h => by cases h), RdF.nil, Nat.le_refl _, fun _ => rfl⟩, fun j u hu => ?_⟩
    rw [b2.cell]
    have hj := (Array.getElem?_eq_some_iff.1 hu).1
    simp [nc] at hj
    rcases (by omega : j = 0 ∨ j = 1 ∨ j = 2 ∨ j = 3 ∨ j = 4 ∨ j = 5 ∨ j = 6 ∨ j = 7 ∨ j = 8) with rfl | rfl | rfl | rfl | rfl | rfl | rfl | rfl | rfl <;> exact hu
  · obtain rfl : (⟨3, 0, 9, zIt, [], []⟩ : Nd) = x := by injection hx
    refine ⟨⟨none, 0, none, 0, none, 0⟩, ⟨zIt_at _ _, (fun h => absurd h (by simp)), Nat.le_refl _, (fun _ => rfl), RdF.nil, Nat.le_refl _, fun _ => rfl⟩, fun j u hu => ?_⟩
    rw [b2.cell]
    have hj := (Array.getElem?_eq_some_iff.1 hu).1
    simp [nc] at hj
    rcases (by omega : j = 0 ∨ j = 1 ∨ j = 2 ∨ j = 3 ∨ j = 4 ∨ j = 5 ∨ j = 6 ∨ j = 7 ∨ j = 8) with rfl | rfl | rfl | rfl | rfl | rfl | rfl | rfl | rfl <;> exact hu
  · obtain rfl : (⟨6, 0, 9, zIt, [2], []⟩ : Nd) = x := by injection hx
    refine ⟨⟨none, 0, some ⟨w.heap.size + 1, 0, none⟩, 1, none, 0⟩, ⟨zIt_at _ _, r1, Nat.le_refl _, (fun h => by cases h), RdF.nil, Nat.le_refl _, fun _ => rfl⟩, fun j u hu => ?_⟩
    rw [b2.cell]
    have hj := (Array.getElem?_eq_some_iff.1 hu).1
    simp [nc] at hj
    rcases (by omega : j = 0 ∨ j = 1 ∨ j = 2 ∨ j = 3 ∨ j = 4 ∨ j = 5 ∨ j = 6 ∨ j = 7 ∨ j = 8) with rfl | rfl | rfl | rfl | rfl | rfl | rfl | rfl | rfl <;> exact hu

end Go.Proofs.YtjelgoeamaejmaaGreat
