/- Layer 18: the schema of a choice and two nodes of bounds, laid. -/
import Derived.Test.YtjelgoeamaejmaaGreatKXAU
namespace Go.Proofs.YtjelgoeamaejmaaGreat
open Go.RowKit

def bdc (b : Nat) (k lo hi lo2 hi2 : Int) : Array Value := #[.int .i64 10, .int .i64 0, .int .i64 0, .int .i64 0, .int .u64 0, .string ⟨#[]⟩, .slice none 0 0, .slice (some ⟨b, 0, none⟩) 2 2, .slice none 0 0, .int .i64 k, .int .i64 lo, .int .i64 hi, .int .i64 0, .int .u64 0, .string ⟨#[]⟩, .slice none 0 0, .slice none 0 0, .slice none 0 0, .int .i64 k, .int .i64 lo2, .int .i64 hi2, .int .i64 0, .int .u64 0, .string ⟨#[]⟩, .slice none 0 0, .slice none 0 0, .slice none 0 0]
theorem bd_at (w : World) (k lo hi lo2 hi2 : Int) : ∃ w5, (((w.alloc (.cells #[.int .i64 1, .int .i64 2, .int .i64 3] 3)).alloc (.cells #[.int .i64 1, .int .i64 2] 3)).alloc (.cells (bdc (w.heap.size + 1) k lo hi lo2 hi2) 47)).alloc (.cells #[.slice (some ⟨w.heap.size + 1 + 1, 0, none⟩) 3 3] 24) = w5 ∧ RdN w5 w5.heap.size (some ⟨w.heap.size + 1 + 1, 0, none⟩) (bdN k lo hi lo2 hi2) ∧ Blk w5 (w.heap.size + 1 + 1 + 1) 24 #[.slice (some ⟨w.heap.size + 1 + 1, 0, none⟩) 3 3] ∧ Below w.heap.size w w5 := by
  obtain ⟨v0, hv0⟩ : ∃ v, w.alloc (.cells #[.int .i64 1, .int .i64 2, .int .i64 3] 3) = v := ⟨_, rfl⟩
  have s0 := below_alloc w (.cells #[.int .i64 1, .int .i64 2, .int .i64 3] 3)
  have e0 : v0.heap.size = w.heap.size + 1 := by rw [← hv0]; simp
  rw [hv0] at s0 ⊢
  have bL := Blk.freshAt v0 3 #[.int .i64 1, .int .i64 2] (w.heap.size + 1) e0.symm
  have s1 := below_alloc v0 (.cells #[.int .i64 1, .int .i64 2] 3)
  obtain ⟨v1, hv1⟩ : ∃ v, v0.alloc (.cells #[.int .i64 1, .int .i64 2] 3) = v := ⟨_, rfl⟩
  have e1 : v1.heap.size = w.heap.size + 1 + 1 := by rw [← hv1]; simp [e0]
  rw [hv1] at s1 bL ⊢
  have bN := Blk.freshAt v1 47 (bdc (w.heap.size + 1) k lo hi lo2 hi2) (w.heap.size + 1 + 1) e1.symm
  have s2 := below_alloc v1 (.cells (bdc (w.heap.size + 1) k lo hi lo2 hi2) 47)
  obtain ⟨v2, hv2⟩ : ∃ v, v1.alloc (.cells (bdc (w.heap.size + 1) k lo hi lo2 hi2) 47) = v := ⟨_, rfl⟩
  have e2 : v2.heap.size = w.heap.size + 1 + 1 + 1 := by rw [← hv2]; simp [e1]
  rw [hv2] at s2 bN ⊢
  have bS := Blk.freshAt v2 24 #[.slice (some ⟨w.heap.size + 1 + 1, 0, none⟩) 3 3] (w.heap.size + 1 + 1 + 1) e2.symm
  have s3 := below_alloc v2 (.cells #[.slice (some ⟨w.heap.size + 1 + 1, 0, none⟩) 3 3] 24)
  obtain ⟨v3, hv3⟩ : ∃ v, v2.alloc (.cells #[.slice (some ⟨w.heap.size + 1 + 1, 0, none⟩) 3 3] 24) = v := ⟨_, rfl⟩
  rw [hv3] at s3 bS ⊢
  have b1 := bN.on s3
  have bl : Blk v3 (w.heap.size + 1) 3 (nums .i64 [1, 2]) := (bL.on s2).on s3
  refine ⟨v3, rfl, ?_, bS, s0.trans ((s1.trans ((s2.trans (s3.mono s2.size)).mono s1.size)).mono s0.size)⟩
  clear hv0 hv1 hv2 hv3 s0 s1 s2 s3 bL bN bS
  intro _
  refine ⟨w.heap.size + 1 + 1, 0, rfl, b1.lt, b1.lt, fun i x hx => ?_⟩
  have hi3 := (List.getElem?_eq_some_iff.1 hx).1
  unfold bdc at b1
  rcases (by have : i < 3 := hi3; omega : i = 0 ∨ i = 1 ∨ i = 2) with rfl | rfl | rfl
  · obtain rfl : chN = x := by injection hx
    refine ⟨⟨none, 0, some ⟨w.heap.size + 1, 0, none⟩, 2, none, 0⟩, ⟨zIt_at _ _, bl.rd, Nat.le_refl _, (fun h => by cases h), RdF.nil, Nat.le_refl _, fun _ => rfl⟩, fun j u hu => ?_⟩
    rw [b1.cell]
    have hj := (Array.getElem?_eq_some_iff.1 hu).1
    simp [nc] at hj
    rcases (by omega : j = 0 ∨ j = 1 ∨ j = 2 ∨ j = 3 ∨ j = 4 ∨ j = 5 ∨ j = 6 ∨ j = 7 ∨ j = 8) with rfl | rfl | rfl | rfl | rfl | rfl | rfl | rfl | rfl <;> exact hu
  · obtain rfl : (⟨k, lo, hi, zIt, [], []⟩ : Nd) = x := by injection hx
    refine ⟨⟨none, 0, none, 0, none, 0⟩, ⟨zIt_at _ _, (fun h => absurd h (by simp)), Nat.le_refl _, (fun _ => rfl), RdF.nil, Nat.le_refl _, fun _ => rfl⟩, fun j u hu => ?_⟩
    rw [b1.cell]
    have hj := (Array.getElem?_eq_some_iff.1 hu).1
    simp [nc] at hj
    rcases (by omega : j = 0 ∨ j = 1 ∨ j = 2 ∨ j = 3 ∨ j = 4 ∨ j = 5 ∨ j = 6 ∨ j = 7 ∨ j = 8) with rfl | rfl | rfl | rfl | rfl | rfl | rfl | rfl | rfl <;> exact hu
  · obtain rfl : (⟨k, lo2, hi2, zIt, [], []⟩ : Nd) = x := by injection hx
    refine ⟨⟨none, 0, none, 0, none, 0⟩, ⟨zIt_at _ _, (fun h => absurd h (by simp)), Nat.le_refl _, (fun _ => rfl), RdF.nil, Nat.le_refl _, fun _ => rfl⟩, fun j u hu => ?_⟩
    rw [b1.cell]
    have hj := (Array.getElem?_eq_some_iff.1 hu).1
    simp [nc] at hj
    rcases (by omega : j = 0 ∨ j = 1 ∨ j = 2 ∨ j = 3 ∨ j = 4 ∨ j = 5 ∨ j = 6 ∨ j = 7 ∨ j = 8) with rfl | rfl | rfl | rfl | rfl | rfl | rfl | rfl | rfl <;> exact hu
/-- What the schema answers in every later world. -/
structure BdA (x : It) (A : Option Addr) (cap g : Nat) (w5 : World) (r1 r2 : Bool) : Prop where
  n0 : ∀ W, Below w5.heap.size w5 W → Calls Tryz.prog 9 #[.agg #[.slice (some ⟨g, 0, none⟩) 3 3], .int .i64 0, vI x A cap] W fun e w' => e = .returned (.bool (r1 || r2)) ∧ Below W.heap.size W w'
  n1 : ∀ W, Below w5.heap.size w5 W → Calls Tryz.prog 9 #[.agg #[.slice (some ⟨g, 0, none⟩) 3 3], .int .i64 1, vI x A cap] W fun e w' => e = .returned (.bool r1) ∧ Below W.heap.size W w'
  n2 : ∀ W, Below w5.heap.size w5 W → Calls Tryz.prog 9 #[.agg #[.slice (some ⟨g, 0, none⟩) 3 3], .int .i64 2, vI x A cap] W fun e w' => e = .returned (.bool r2) ∧ Below W.heap.size W w'
  imp : r1 = true → r2 = true
theorem bd_all {k lo hi lo2 hi2 : Int} (x : It) (A : Option Addr) (cap g : Nat) (w5 : World) (hk : lone k) (h0 : 0 ≤ lo) (h : lo ≤ hi) (h02 : 0 ≤ lo2) (h2 : lo2 ≤ lo) (h3 : hi ≤ hi2) (hs : RdN w5 w5.heap.size (some ⟨g, 0, none⟩) (bdN k lo hi lo2 hi2)) (hi' : AtB w5 w5.heap.size x A cap) (hio : okI 1048576 x) (hic : chI x = 0) :
    BdA x A cap g w5 (loneR k lo hi x) (loneR k lo2 hi2 x) :=
  ⟨fun W hW => bd_node 0 (some ⟨g, 0, none⟩) 3 x A cap w5.heap.size W hW.size (hs.keep hW) hk h0 h h02 (by omega) (hi'.keep hW) hio hic (by decide),
   fun W hW => bd_node 1 (some ⟨g, 0, none⟩) 3 x A cap w5.heap.size W hW.size (hs.keep hW) hk h0 h h02 (by omega) (hi'.keep hW) hio hic (by decide),
   fun W hW => bd_node 2 (some ⟨g, 0, none⟩) 3 x A cap w5.heap.size W hW.size (hs.keep hW) hk h0 h h02 (by omega) (hi'.keep hW) hio hic (by decide),
   fun e => lone_wider x hk h2 h3 e⟩
end Go.Proofs.YtjelgoeamaejmaaGreat
