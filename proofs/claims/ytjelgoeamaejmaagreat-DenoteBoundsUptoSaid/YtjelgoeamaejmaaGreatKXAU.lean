/- Layer 18: a choice of two nodes of bounds, and these: what any item matches of them. -/
import Derived.Test.YtjelgoeamaejmaaGreatKXAT
import Derived.Test.YtjelgoeamaejmaaGreatKXAR
namespace Go.Proofs.YtjelgoeamaejmaaGreat
open Go.RowKit

def bdN (k lo hi lo2 hi2 : Int) : List Nd := [chN, ⟨k, lo, hi, zIt, [], []⟩, ⟨k, lo2, hi2, zIt, [], []⟩]
theorem bdN_ok (k lo hi lo2 hi2 : Int) : ∀ x ∈ bdN k lo hi lo2 hi2, okN x := by
  intro x hx
  simp only [bdN, List.mem_cons, List.not_mem_nil, or_false] at hx
  rcases hx with rfl | rfl | rfl
  · exact ⟨okI_z, (fun y hy => by cases hy), by simp [chN]⟩
  · exact ⟨okI_z, (fun y hy => by cases hy), by simp⟩
  · exact ⟨okI_z, (fun y hy => by cases hy), by simp⟩
theorem bdN_one {k lo hi : Int} (i : Int) (hk : lone k) (h0 : 0 ≤ lo) (h : lo ≤ hi) : wrongN chI ⟨k, lo, hi, zIt, [], []⟩ i 3 = 0 := by
  rcases hk with rfl | rfl | rfl
  · exact wrong_not (by show ¬ ((1 : Int) < 0 ∨ 10 < 1); decide) (by simp [formN, Nd.of, sameN]) (by simp [rangedN, h]) rfl (by simp [nameE, namedN])
  · exact wrong_not (by show ¬ ((2 : Int) < 0 ∨ 10 < 2); decide) (by simp [formN, Nd.of, sameN]) (by simp [rangedN, h, h0]) rfl (by simp [nameE, namedN])
  · exact wrong_not (by show ¬ ((3 : Int) < 0 ∨ 10 < 3); decide) (by simp [formN, Nd.of, sameN]) (by simp [rangedN, h, h0]) rfl (by simp [nameE, namedN])
theorem bdN_check {k lo hi lo2 hi2 : Int} (hk : lone k) (h0 : 0 ≤ lo) (h : lo ≤ hi) (h02 : 0 ≤ lo2) (h2 : lo2 ≤ hi2) : checkE chI (bdN k lo hi lo2 hi2) = 0 := by
  refine (checkE_all (by show ¬ (3 < 1 ∨ 256 < 3); decide) fun j hj => ?_).1
  have hj3 : j < 3 := hj
  rcases (by omega : j = 0 ∨ j = 1 ∨ j = 2) with rfl | rfl | rfl
  · rw [errN_some (x := chN) rfl]
    exact wrong_not (by show ¬ ((10 : Int) < 0 ∨ 10 < 10); decide) (by simp [formN, Nd.of, sameN, chN]) (by simp [rangedN, chN]) rfl (by simp [nameE, namedN, chN, nameB, bdN])
  · rw [errN_some (x := ⟨k, lo, hi, zIt, [], []⟩) rfl]
    exact bdN_one 1 hk h0 h
  · rw [errN_some (x := ⟨k, lo2, hi2, zIt, [], []⟩) rfl]
    exact bdN_one 2 hk h02 h2
noncomputable def bdR (k lo hi lo2 hi2 : Int) (ps : List Pt) (node a : Nat) : Bool := if node = 0 then loneR k lo hi (xAt ps a) || loneR k lo2 hi2 (xAt ps a) else if node = 1 then loneR k lo hi (xAt ps a) else loneR k lo2 hi2 (xAt ps a)
theorem itemsL_of {z : It} {d : Nat} {p : Nat × It} (hp : p ∈ z.items d) : ∀ {l : List It}, z ∈ l → p ∈ itemsL l d
  | y :: l, hz => by
    rw [itemsL]
    rcases List.mem_cons.1 hz with rfl | h
    · exact List.mem_append_left _ hp
    · exact List.mem_append_right _ (itemsL_of hp h)
theorem okI_kid {x : It} (h : okI 1048576 x) : ∀ {ps : List Pt}, Sp x ps.length ps → ∀ q ∈ ps, 0 ≤ q.x.n := by
  intro ps hsp q hq
  obtain ⟨d, hd⟩ := hsp.her (fun y => ∃ d, ∀ p ∈ y.items d, 0 ≤ p.2.n) ⟨0, fun p hp => (h.2 0 p hp).1⟩ (fun y ⟨d, hy⟩ z hz => ⟨d + 1, fun p hp => hy p (by rw [It.items_eq]; exact List.mem_cons_of_mem _ (itemsL_of hp hz))⟩) q hq
  exact hd (d, q.x) (by rw [It.items_eq]; exact List.mem_cons_self ..)
theorem bd_rules {k lo hi lo2 hi2 : Int} (x : It) (fr : Nat) (hk : lone k) (hx : okI 1048576 x) : RulesOk (bdN k lo hi lo2 hi2) x fr (bdR k lo hi lo2 hi2) := by
  intro w0 nn ps hn hsp hpat node y p W B H cm g hy _ hnd _ hB hW
  have hall : ∀ q ∈ ps, 0 ≤ q.x.n := okI_kid hx hsp
  have hat : ∀ a q, ps[a]? = some q → xAt ps a = q.x := fun a q hq => by unfold xAt; rw [hq]; rfl
  have hnode : node < 3 := (List.getElem?_eq_some_iff.1 hy).1
  match node, hnode with
  | 0, _ =>
    obtain rfl : chN = y := by injection hy
    exact rule_choice p W B cm g _ nn _ (fun a => rfl) (Nat.le_trans hn hW.size) hnd (by show 2 < 3; decide)
  | 1, _ =>
    obtain rfl : (⟨k, lo, hi, zIt, [], []⟩ : Nd) = y := by injection hy
    refine rule_lone (xs := bdN k lo hi lo2 hi2) p W B cm g _ _ _ hk fun a q hq => ⟨?_, hall q (List.mem_of_getElem? hq)⟩
    show loneR k lo hi (xAt ps a) = loneR k lo hi q.x
    rw [hat a q hq]
  | 2, _ =>
    obtain rfl : (⟨k, lo2, hi2, zIt, [], []⟩ : Nd) = y := by injection hy
    refine rule_lone (xs := bdN k lo hi lo2 hi2) p W B cm g _ _ _ hk fun a q hq => ⟨?_, hall q (List.mem_of_getElem? hq)⟩
    show loneR k lo2 hi2 (xAt ps a) = loneR k lo2 hi2 q.x
    rw [hat a q hq]
theorem sp_at0 {x : It} {ps : List Pt} (h : Sp x ps.length ps) : xAt ps 0 = x := by
  have := h.first
  unfold xAt
  rw [List.getElem?_map] at this
  rw [this]
  rfl
/-- What the three nodes mean of an item. -/
theorem bd_node {k lo hi lo2 hi2 : Int} (node : Nat) (A : Option Addr) (cap : Nat) (x : It) (Ax : Option Addr) (cx n : Nat) (w : World) (hn : n ≤ w.heap.size) (hs : RdN w n A (bdN k lo hi lo2 hi2)) (hk : lone k) (h0 : 0 ≤ lo) (h : lo ≤ hi) (h02 : 0 ≤ lo2) (h2 : lo2 ≤ hi2) (hi' : AtB w n x Ax cx) (hio : okI 1048576 x) (hic : chI x = 0) (hnode : node < 3) :
    Calls Tryz.prog 9 #[.agg #[.slice A 3 cap], .int .i64 (node : Int), vI x Ax cx] w fun e w' => e = .returned (.bool (if node = 0 then loneR k lo hi x || loneR k lo2 hi2 x else if node = 1 then loneR k lo hi x else loneR k lo2 hi2 x)) ∧ Below w.heap.size w w' := by
  refine (den_Matches (bdN k lo hi lo2 hi2) A cap x Ax cx n node (bdR k lo hi lo2 hi2) w hn hs (bdN_ok k lo hi lo2 hi2) (by show 3 ≤ 1048576; decide) (bdN_check hk h0 h h02 h2) hi' hio hic hnode (bd_rules x node hk hio)).mono ?_
  rintro e w' ⟨⟨ps, hsp, rfl⟩, hb⟩
  refine ⟨?_, hb⟩
  unfold bdR
  rw [sp_at0 hsp]
/-- Wider bounds mean all that narrower ones do. -/
theorem lone_wider {k lo hi lo2 hi2 : Int} (x : It) (hk : lone k) (h1 : lo2 ≤ lo) (h2 : hi ≤ hi2) (h : loneR k lo hi x = true) : loneR k lo2 hi2 x = true := by
  rcases hk with rfl | rfl | rfl <;> simp [loneR, inR] at h ⊢
  all_goals exact ⟨h.1, by omega, by omega⟩
end Go.Proofs.YtjelgoeamaejmaaGreat
