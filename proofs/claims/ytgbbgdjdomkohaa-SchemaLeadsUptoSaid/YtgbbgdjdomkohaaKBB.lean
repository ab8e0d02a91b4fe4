/- Package item: Check, whole; what the law ItemTells asks of both sides. -/
import Derived.Test.YtgbbgdjdomkohaaKAS
import Derived.Test.YtgbbgdjdomkohaaKAX
import Derived.Test.YtgbbgdjdomkohaaKAZ
import Derived.Test.YtgbbgdjdomkohaaKBA
import Derived.Test.YtgbbgdjdomkohaaKAM
namespace Go.Proofs.Ytgbbgdjdomkohaa
open Go.RowKit Go.Sort

theorem okI_item {N : Nat} {x : It} (hx : okI N x) {d : Nat} {t : It} (ht : (d, t) ∈ x.items 1) : 0 ≤ t.n ∧ t.n < 18446744073709551616 ∧ t.s.size ≤ N ∧ t.count ≤ N :=
  ⟨(hx.2 1 _ ht).1, (hx.2 1 _ ht).2.1, (hx.2 1 _ ht).2.2, Nat.le_trans (It.items_count x 1 _ ht) hx.1⟩
theorem item_CheckW (x : It) (A : Option Addr) (cap n : Nat) (w : World) (hx : okI 1048576 x) (hn : n ≤ w.heap.size) (h : AtB w n x A cap) :
    Calls Try.prog 40 #[vI x A cap] w fun e w' => e = .returned (.int .i64 (checkR wrongI x)) ∧ Below w.heap.size w w' := by
  have hc := hx.1
  refine item_Check x A cap n w wrongI (by omega) hn h fun d t A cap W ht hnW hat => ?_
  obtain ⟨h1, h2, h3, h4⟩ := okI_item hx ht
  exact item_checkOne t A cap n W h1 h2 (by omega) hnW hat fun _ W2 hn2 hat2 => item_twice t.l A cap n W2 (by rw [It.count_eq] at h4; omega) hn2 hat2.rl
theorem ref_CheckW (x : It) (A : Option Addr) (cap n : Nat) (w : World) (hx : okI 1048576 x) (hn : n ≤ w.heap.size) (h : AtB w n x A cap) :
    Calls Try.prog 37 #[vI x A cap] w fun e w' => e = .returned (.int .i64 (checkR wrongI x)) ∧ Below w.heap.size w w' := by
  have hc := hx.1
  refine ref_Check x A cap n w (by omega) hn h fun t ht => ?_
  obtain ⟨⟨d, t'⟩, hp, rfl⟩ := List.mem_map.1 ht
  obtain ⟨h1, h2, h3, h4⟩ := okI_item hx hp
  exact ⟨h1, h2, by show t'.s.size ≤ _; omega, by show t'.count ≤ _; omega⟩
/-- Few items stand not deep in all. -/
theorem deepSum_few {x : It} (h : x.count ≤ 200) : deepSum x ≤ 2147483647 := by
  have h1 : ∀ (l : List Nat) (B : Nat), (∀ a ∈ l, a ≤ B) → l.sum ≤ l.length * B := by
    intro l B hl
    induction l with
    | nil => simp
    | cons a r ih =>
      have h2 := ih fun b hb => hl b (List.mem_cons_of_mem _ hb)
      have h3 := hl a (List.mem_cons_self ..)
      rw [List.sum_cons, List.length_cons, Nat.add_mul]
      omega
  have h2 := h1 ((x.items 1).map (·.1)) 200 fun a ha => by
    obtain ⟨p, hp, rfl⟩ := List.mem_map.1 ha
    have := It.items_deep x 1 p hp
    omega
  rw [List.length_map, It.length_items] at h2
  have h3 : x.count * 200 ≤ 200 * 200 := Nat.mul_le_mul_right 200 h
  unfold deepSum
  omega
theorem not_great {x : It} (h : greatB x = false) : x.count ≤ 200 := by
  unfold greatB at h
  rw [Bool.or_eq_false_iff] at h
  have := of_decide_eq_false h.2
  omega
/-- What Items hands back, as it is read. -/
structure ItemsAt (x : It) (n : Nat) (w : World) (g1 g2 : Nat) : Prop where
  l1 : g1 < w.heap.size
  l2 : g2 < w.heap.size
  at_ : ∀ (k d : Nat) (X : It), (x.items 1)[k]? = some (d, X) → w.cell? ⟨g2, k, none⟩ = some (.int .i64 (d : Int)) ∧ ∃ A c, w.cell? ⟨g1, k * 4, none⟩ = some (.int .i64 X.k) ∧ w.cell? ⟨g1, k * 4 + 1, none⟩ = some (.int .u64 X.n) ∧ w.cell? ⟨g1, k * 4 + 2, none⟩ = some (.string X.s) ∧
    w.cell? ⟨g1, k * 4 + 3, none⟩ = some (.slice A X.l.length c) ∧ AtB w n X A c
theorem ItemsAt.on {x : It} {n g1 g2 : Nat} {w w' : World} (h : ItemsAt x n w g1 g2) (hb : Below w.heap.size w w') (hn : n ≤ w.heap.size) : ItemsAt x n w' g1 g2 := by
  refine ⟨Nat.lt_of_lt_of_le h.l1 hb.size, Nat.lt_of_lt_of_le h.l2 hb.size, fun k d X hk => ?_⟩
  obtain ⟨h0, A, c, c0, c1, c2, c3, ha⟩ := h.at_ k d X hk
  have e1 := hb.block g1 h.l1
  have e2 := hb.block g2 h.l2
  exact ⟨cell_kept' e2 h0, A, c, cell_kept' e1 c0, cell_kept' e1 c1, cell_kept' e1 c2, cell_kept' e1 c3, ha.keep (hb.mono hn)⟩
theorem items_at {x : It} {n B : Nat} {w : World} {v1 v2 : Value} (h : ItemsPost x n 1 B w v1 v2) : ∃ g1 c1 g2 c2, v1 = .slice (some ⟨g1, 0, none⟩) x.count c1 ∧ v2 = .slice (some ⟨g2, 0, none⟩) x.count c2 ∧ ItemsAt x n w g1 g2 := by
  obtain ⟨o1, o2⟩ := h
  have hl1 := length_its x 1
  have hl2 := length_deps x 1
  obtain ⟨g1, c1, rfl, _, _, _, hg1⟩ := o1.form (by rw [hl1]; exact count_pos x)
  obtain ⟨g2, c2, rfl, _, _, _⟩ := o2.head (by rw [hl2]; exact count_pos x)
  have hg2 := o2.lt (by rw [hl2]; exact count_pos x)
  refine ⟨g1, c1, g2, c2, by rw [hl1], by rw [hl2], hg1, hg2, fun k d X hk => ?_⟩
  have hlt : k < x.count := by
    rw [← It.length_items x 1]
    rcases Nat.lt_or_ge k (x.items 1).length with h | h
    · exact h
    · rw [List.getElem?_eq_none h] at hk; cases hk
  constructor
  · have h0 := (o2.at (j := k) (by rw [hl2]; exact hlt)).1
    have e : (deps x 1).getD k 0 = (d : Int) := by rw [deps, List.getD_eq_getElem?_getD, List.getElem?_map, hk]; rfl
    rw [e] at h0
    exact h0
  · obtain ⟨X', A, c, hX, _, c0, c1, c2, c3, ha⟩ := o1.item (i := k) (by rw [hl1]; exact hlt)
    have : (its x 1)[k]? = some X := by rw [its, List.getElem?_map, hk]; rfl
    rw [this] at hX
    cases hX
    exact ⟨A, c, c0, c1, c2, c3, ha⟩
/-- What the law's loops lean on: they turn none of it. -/
structure Cx (x : It) (few : Int) (g L Bk g1 c1 g2 c2 : Nat) (A' : Option Addr) (c' : Nat) (W : World) : Prop where
  few : W.cell? ⟨g + 1, 0, none⟩ = some (.int .u8 few)
  res : W.cell? ⟨g + 2, 0, none⟩ = some (.bool false)
  resf : W.frozen? ⟨g + 2, 0, none⟩ = false
  l : W.cell? ⟨L, 0, none⟩ = some (.slice (some ⟨g1, 0, none⟩) x.count c1)
  d : W.cell? ⟨L + 1, 0, none⟩ = some (.slice (some ⟨g2, 0, none⟩) x.count c2)
  it : ItemsAt x g W g1 g2
  bk : Blk W Bk 40 #[.int .i64 x.k, .int .u64 x.n, .string x.s, .slice A' x.l.length c']
  at_ : AtB W Bk x A' c'
  gl : g ≤ L
  lb : L + 2 ≤ Bk
theorem Cx.on {x : It} {few : Int} {g L Bk g1 c1 g2 c2 : Nat} {A' : Option Addr} {c' : Nat} {W W' : World} (h : Cx x few g L Bk g1 c1 g2 c2 A' c' W) (hb : Below W.heap.size W W') : Cx x few g L Bk g1 c1 g2 c2 A' c' W' := by
  have hl := h.bk.lt
  have hg : g ≤ W.heap.size := by have := h.gl; have := h.lb; omega
  exact ⟨(hb.cell (p := ⟨g + 1, 0, none⟩) (block_lt_of_cell h.few)).trans h.few, (hb.cell (p := ⟨g + 2, 0, none⟩) (block_lt_of_cell h.res)).trans h.res, (hb.frozen (p := ⟨g + 2, 0, none⟩) (block_lt_of_cell h.res)).trans h.resf,
    (hb.cell (p := ⟨L, 0, none⟩) (block_lt_of_cell h.l)).trans h.l, (hb.cell (p := ⟨L + 1, 0, none⟩) (block_lt_of_cell h.d)).trans h.d, h.it.on hb hg, h.bk.on hb, h.at_.keep (hb.mono (Nat.le_of_lt hl)), h.gl, h.lb⟩
/-- The told one is the next of the list. -/
theorem told_next {x : It} {pre : List Told} {z : Told} (h : (pre ++ [z]).map toldOf <+: x.items 1) : (x.items 1)[pre.length]? = some (z.d, z.t) := by
  obtain ⟨r, hr⟩ := h
  rw [← hr, List.map_append, List.append_assoc, List.getElem?_append_right (by simp)]
  simp [toldOf]
theorem told_lt {x : It} {pre : List Told} {z : Told} (h : (pre ++ [z]).map toldOf <+: x.items 1) : pre.length < x.count := by
  have := h.length_le
  rw [List.length_map, List.length_append, It.length_items] at this
  exact this
theorem told_all {x : It} {xs : List Told} (h : xs.map toldOf = x.items 1) : xs.length = x.count := by
  have := congrArg List.length h
  rwa [List.length_map, It.length_items] at this
end Go.Proofs.Ytgbbgdjdomkohaa

/- Package schema: valued, ranged, formed. -/
namespace Go.Proofs.Ytgbbgdjdomkohaa
open Go.RowKit

/-- What is wrong of an item. -/
noncomputable def chI : It → Int := checkR wrongI
set_option maxRecDepth 100000 in
set_option maxHeartbeats 1000000 in
theorem sch_valued (v : It) (A : Option Addr) (cap n : Nat) (w : World) (hv : okI 1048576 v) (hn : n ≤ w.heap.size) (h : AtB w n v A cap) :
    Calls Try.prog 35 #[vI v A cap] w fun e w' => e = .returned (.bool (valuedN chI v)) ∧ Below w.heap.size w w' := by
  obtain ⟨w1, hw1, b1, S⟩ := iblk1 w 40 #[.int .i64 v.k, .int .u64 v.n, .string v.s, .slice A v.l.length cap]
  obtain ⟨p0, p1, p2, p3, -⟩ := iblk b1
  have HC := Lib.hid (item_CheckW v A cap n w1 hv (Nat.le_trans hn S.size) (h.keep (S.mono hn)))
  have HR : Hid (∀ r, r = ((decide (v.k = 0) || decide (v.k = 1) || decide (v.k = 2) || decide (v.k = 3) || decide (v.k = 7)) && decide (chI v = 0)) → r = valuedN chI v) := Lib.hid fun r h => h
  have HS := Lib.hid S
  clear S h hn hv b1
  change Hid (Calls _ _ _ _ fun e w' => e = .returned (.int .i64 (chI v)) ∧ _) at HC
  generalize valuedN chI v = res at *
  generalize chI v = c at *
  simp only [vI] at HC ⊢
  go_enter Try.func35, Try.ntmps35
  go_wp2_with (first
        | (go_at_call 40; refine HC.out.mono ?_; rintro e w2 ⟨rfl, hb2⟩; have HB2 := Lib.hid hb2; clear hb2))
  all_goals go_ret
  all_goals first
    | exact ⟨by rw [← HR.out _ rfl]; clear HR HC HS HB2 p0 p1 p2 p3 hw1; simp_all <;> first | rfl | omega, HS.out.trans (HB2.out.mono HS.out.size)⟩
    | exact ⟨by rw [← HR.out _ rfl]; clear HR HC HS p0 p1 p2 p3 hw1; simp_all <;> first | rfl | omega, HS.out⟩

set_option maxRecDepth 100000 in
set_option maxHeartbeats 1000000 in
theorem sch_ranged (x : Nd) (p : Pl) (w : World) :
    Calls Try.prog 27 #[vN x p] w fun e w' => e = .returned (.bool (rangedN x)) ∧ Below w.heap.size w w' := by
  have b1 := Blk.fresh w 43 (nc x p)
  have S := below_alloc w (.cells (nc x p) 43)
  obtain ⟨w1, hw1⟩ : ∃ w1, w.alloc (.cells (nc x p) 43) = w1 := ⟨_, rfl⟩
  rw [hw1] at b1 S
  unfold nc at b1 hw1
  obtain ⟨p0, p1, p2, p3, p4, p5, p6, p7, p8⟩ := nblk b1
  have HS := Lib.hid S
  have HR : Hid (∀ r, r = (if x.k = 2 ∨ x.k = 3 ∨ x.k = 6 then decide (0 ≤ x.lo) && decide (x.lo ≤ x.hi) else if x.k = 1 then decide (x.lo ≤ x.hi) else if x.k = 9 then decide (0 ≤ x.lo) else true) → r = rangedN x) := Lib.hid fun r h => h
  generalize rangedN x = res at *
  clear S b1
  simp only [vN]
  go_enter Try.func27, Try.ntmps27
  go_wp2_with fail
  all_goals go_ret
  all_goals exact ⟨by rw [← HR.out _ rfl]; clear HR HS p0 p1 p2 p3 p4 p5 p6 p7 p8 hw1; simp_all <;> first | rfl | omega, HS.out⟩
end Go.Proofs.Ytgbbgdjdomkohaa
