/- Layer 18: one node of a number, one number. -/
import Derived.Test.YtjelgoeamaejmaaGreatKXAQ
namespace Go.Proofs.YtjelgoeamaejmaaGreat
open Go.RowKit

def numI (k n : Int) : It := .mk k n ⟨#[]⟩ []
theorem numI_items (k n : Int) (d : Nat) : (numI k n).items d = [(d, numI k n)] := by simp [numI, It.items, itemsL]
theorem numI_ok (k n : Int) (h0 : 0 ≤ n) (h1 : n < 18446744073709551616) : okI 1048576 (numI k n) := by
  refine ⟨by simp [numI, It.count, countL], fun d p hp => ?_⟩
  rw [numI_items] at hp
  simp only [List.mem_cons, List.not_mem_nil, or_false] at hp
  subst hp
  exact ⟨by simpa [numI, It.n] using h0, by simpa [numI, It.n] using h1, by show 0 ≤ _; omega⟩
theorem numI_check (k n : Int) (hk : k = 0 ∨ k = 1) : chI (numI k n) = 0 := by
  unfold chI checkR
  have hd : ¬ 64 < (numI k n).depth := by
    unfold It.depth
    rw [numI_items]
    show ¬ 64 < mostOf [1]
    decide
  rw [if_neg hd, numI_items]
  have h1 : wrongI (numI k n) = 0 := by
    unfold wrongI
    rcases hk with rfl | rfl
    · rw [if_neg (by simp [formB, numI, formK, It.k, It.s, It.l]), if_neg (by simp [rangB, numI, It.k]), if_neg (by simp [numI, It.k]), if_neg (by simp [numI, It.k])]
    · rw [if_neg (by simp [formB, numI, formK, It.k, It.s, It.l]), if_neg (by simp [rangB, numI, It.k]), if_neg (by simp [numI, It.k]), if_neg (by simp [numI, It.k])]
  simp [firstErr, h1]
theorem one_part {x : It} {ps : List Pt} (h : Sp x ps.length ps) (hx : x.count = 1) : ∃ p, ps = [p] ∧ p.x = x := by
  have hc := h.cnt
  rw [List.drop_of_length_le (Nat.le_refl _), hx] at hc
  have hl : ps.length = 1 := by simpa [cntP, countL] using hc
  match ps, hl with
  | [p], _ =>
    have := h.first
    exact ⟨p, rfl, by simpa using this⟩
def numN (lo hi : Int) : List Nd := [⟨1, lo, hi, zIt, [], []⟩]
theorem numN_ok (lo hi : Int) : ∀ x ∈ numN lo hi, okN x := by
  intro x hx
  simp only [numN, List.mem_cons, List.not_mem_nil, or_false] at hx
  subst hx
  exact ⟨okI_z, (fun y hy => by cases hy), by simp⟩
theorem numN_check (lo hi : Int) (h : lo ≤ hi) : checkE chI (numN lo hi) = 0 := by
  refine (checkE_all (by show ¬ (1 < 1 ∨ 256 < 1); decide) fun j hj => ?_).1
  have hj1 : j = 0 := by have : j < 1 := hj; omega
  subst hj1
  rw [errN_some (x := ⟨1, lo, hi, zIt, [], []⟩) rfl]
  exact wrong_not (by show ¬ ((1 : Int) < 0 ∨ 10 < 1); decide) (by simp [formN, Nd.of, sameN]) (by simp [rangedN, h]) rfl (by simp [nameE, namedN])
theorem den_num (lo hi k n : Int) (A : Option Addr) (cap : Nat) (w : World) (hx : RdN w w.heap.size A (numN lo hi)) (hlh : lo ≤ hi) (hk : k = 0 ∨ k = 1) (h0 : 0 ≤ n) (h1 : n < 18446744073709551616) :
    Calls Tryz.prog 9 #[.agg #[.slice A 1 cap], .int .i64 0, .agg #[.int .i64 k, .int .u64 n, .string ⟨#[]⟩, .slice none 0 0]] w fun e w' => e = .returned (.bool ((numR k n).2 && inR (numR k n).1 lo hi)) ∧ Below w.heap.size w w' := by
  have hat : AtB w w.heap.size (numI k n) none 0 := ⟨Nat.le_refl _, (fun _ => rfl), AtL.nil _⟩
  have hr : RulesOk (numN lo hi) (numI k n) 0 (fun ps _ a => loneR 1 lo hi (xAt ps a)) := by
    intro w0 nn ps hn hsp hpat node y p W B H cm g hy _ hnd _ _ hW
    obtain ⟨p0, rfl, hp0⟩ := one_part hsp (by simp [numI, It.count, countL])
    have hnode : node = 0 := by have : node < 1 := (List.getElem?_eq_some_iff.1 hy).1; omega
    subst hnode
    obtain rfl : (⟨1, lo, hi, zIt, [], []⟩ : Nd) = y := by injection hy
    refine rule_lone (xs := numN lo hi) p W B cm g _ _ _ (.inl rfl) ?_
    intro a q hq
    have e1 : xAt [p0] a = q.x := by unfold xAt; rw [hq]; rfl
    have e2 : q = p0 := by simpa using List.mem_of_getElem? hq
    refine ⟨by show loneR 1 lo hi (xAt [p0] a) = loneR 1 lo hi q.x; rw [e1], ?_⟩
    rw [e2, hp0]
    simpa [numI, It.n] using h0
  refine (den_Matches (numN lo hi) A cap (numI k n) none 0 w.heap.size 0 _ w (Nat.le_refl _) hx (numN_ok lo hi) (by show 1 ≤ 1048576; decide) (numN_check lo hi hlh) hat (numI_ok k n h0 h1) (numI_check k n hk) (by show 0 < 1; decide) hr).mono ?_
  rintro e w' ⟨⟨ps, hsp, rfl⟩, hb⟩
  obtain ⟨p0, rfl, hp0⟩ := one_part hsp (by simp [numI, It.count, countL])
  refine ⟨?_, hb⟩
  have e1 : xAt [p0] 0 = numI k n := hp0
  show Ending.returned (.bool (loneR 1 lo hi (xAt [p0] 0))) = _
  rw [e1]
  unfold loneR
  rw [if_pos rfl]
  rfl
end Go.Proofs.YtjelgoeamaejmaaGreat
