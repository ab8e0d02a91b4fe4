/- Package item: Check, whole; what the law ItemTells asks of both sides. -/
import Derived.Test.YtgcgidoikpbfpaaKBF
import Derived.Test.YtgcgidoikpbfpaaKBG
import Derived.Test.YtgcgidoikpbfpaaKBH
import Derived.Test.YtgcgidoikpbfpaaKBI
import Derived.Test.YtgcgidoikpbfpaaKBE
namespace Go.Proofs.Ytgcgidoikpbfpaa
open Go.RowKit Go.Sort

theorem okI_item {N : Nat} {x : It} (hx : okI N x) {d : Nat} {t : It} (ht : (d, t) ∈ x.items 1) : 0 ≤ t.n ∧ t.n < 18446744073709551616 ∧ t.s.size ≤ N ∧ t.count ≤ N :=
  ⟨(hx.2 1 _ ht).1, (hx.2 1 _ ht).2.1, (hx.2 1 _ ht).2.2, Nat.le_trans (It.items_count x 1 _ ht) hx.1⟩
theorem item_CheckW (x : It) (A : Option Addr) (cap n : Nat) (w : World) (hx : okI 1048576 x) (hn : n ≤ w.heap.size) (h : AtB w n x A cap) :
    Calls Try.prog 13 #[vI x A cap] w fun e w' => e = .returned (.int .i64 (checkR wrongI x)) ∧ Below w.heap.size w w' := by
  have hc := hx.1
  refine item_Check x A cap n w wrongI (by omega) hn h fun d t A cap W ht hnW hat => ?_
  obtain ⟨h1, h2, h3, h4⟩ := okI_item hx ht
  exact item_checkOne t A cap n W h1 h2 (by omega) hnW hat fun _ W2 hn2 hat2 => item_twice t.l A cap n W2 (by rw [It.count_eq] at h4; omega) hn2 hat2.rl
/-- Few items stand not deep in all. -/
theorem deepSum_few {x : It} (h : x.count ≤ 200) : deepSum x ≤ 2147483647 := by
  have h1 : ∀ (l : List Nat) (B : Nat), (∀ a ∈ l, a ≤ B) → l.sum ≤ l.length * B := by
    intro l B hl
    induction l with
    | nil => simp
    | cons a r ih =>
      have h2 := ih fun b hb => hl b (List.mem_cons_of_mem _ hb)
      have h3 := hl a (List.mem_cons_self ..)
      rw [List.sum_cons, List.length_cons, Nat.add_mul]
      omega
  have h2 := h1 ((x.items 1).map (·.1)) 200 fun a ha => by
    obtain ⟨p, hp, rfl⟩ := List.mem_map.1 ha
    have := It.items_deep x 1 p hp
    omega
  rw [List.length_map, It.length_items] at h2
  have h3 : x.count * 200 ≤ 200 * 200 := Nat.mul_le_mul_right 200 h
  unfold deepSum
  omega
theorem not_great {x : It} (h : greatB x = false) : x.count ≤ 200 := by
  unfold greatB at h
  rw [Bool.or_eq_false_iff] at h
  have := of_decide_eq_false h.2
  omega
/-- What Items hands back, as it is read. -/
structure ItemsAt (x : It) (n : Nat) (w : World) (g1 g2 : Nat) : Prop where
  l1 : g1 < w.heap.size
  l2 : g2 < w.heap.size
  at_ : ∀ (k d : Nat) (X : It), (x.items 1)[k]? = some (d, X) → w.cell? ⟨g2, k, none⟩ = some (.int .i64 (d : Int)) ∧ ∃ A c, w.cell? ⟨g1, k * 4, none⟩ = some (.int .i64 X.k) ∧ w.cell? ⟨g1, k * 4 + 1, none⟩ = some (.int .u64 X.n) ∧ w.cell? ⟨g1, k * 4 + 2, none⟩ = some (.string X.s) ∧
    w.cell? ⟨g1, k * 4 + 3, none⟩ = some (.slice A X.l.length c) ∧ AtB w n X A c
theorem ItemsAt.on {x : It} {n g1 g2 : Nat} {w w' : World} (h : ItemsAt x n w g1 g2) (hb : Below w.heap.size w w') (hn : n ≤ w.heap.size) : ItemsAt x n w' g1 g2 := by
  refine ⟨Nat.lt_of_lt_of_le h.l1 hb.size, Nat.lt_of_lt_of_le h.l2 hb.size, fun k d X hk => ?_⟩
  obtain ⟨h0, A, c, c0, c1, c2, c3, ha⟩ := h.at_ k d X hk
  have e1 := hb.block g1 h.l1
  have e2 := hb.block g2 h.l2
  exact ⟨cell_kept' e2 h0, A, c, cell_kept' e1 c0, cell_kept' e1 c1, cell_kept' e1 c2, cell_kept' e1 c3, ha.keep (hb.mono hn)⟩
theorem items_at {x : It} {n B : Nat} {w : World} {v1 v2 : Value} (h : ItemsPost x n 1 B w v1 v2) : ∃ g1 c1 g2 c2, v1 = .slice (some ⟨g1, 0, none⟩) x.count c1 ∧ v2 = .slice (some ⟨g2, 0, none⟩) x.count c2 ∧ ItemsAt x n w g1 g2 := by
  obtain ⟨o1, o2⟩ := h
  have hl1 := length_its x 1
  have hl2 := length_deps x 1
  obtain ⟨g1, c1, rfl, _, _, _, hg1⟩ := o1.form (by rw [hl1]; exact count_pos x)
  obtain ⟨g2, c2, rfl, _, _, _⟩ := o2.head (by rw [hl2]; exact count_pos x)
  have hg2 := o2.lt (by rw [hl2]; exact count_pos x)
  refine ⟨g1, c1, g2, c2, by rw [hl1], by rw [hl2], hg1, hg2, fun k d X hk => ?_⟩
  have hlt : k < x.count := by
    rw [← It.length_items x 1]
    rcases Nat.lt_or_ge k (x.items 1).length with h | h
    · exact h
    · rw [List.getElem?_eq_none h] at hk; cases hk
  constructor
  · have h0 := (o2.at (j := k) (by rw [hl2]; exact hlt)).1
    have e : (deps x 1).getD k 0 = (d : Int) := by rw [deps, List.getD_eq_getElem?_getD, List.getElem?_map, hk]; rfl
    rw [e] at h0
    exact h0
  · obtain ⟨X', A, c, hX, _, c0, c1, c2, c3, ha⟩ := o1.item (i := k) (by rw [hl1]; exact hlt)
    have : (its x 1)[k]? = some X := by rw [its, List.getElem?_map, hk]; rfl
    rw [this] at hX
    cases hX
    exact ⟨A, c, c0, c1, c2, c3, ha⟩
/-- What the law's loops lean on: they turn none of it. -/
structure Cx (x : It) (few : Int) (g L Bk g1 c1 g2 c2 : Nat) (A' : Option Addr) (c' : Nat) (W : World) : Prop where
  few : W.cell? ⟨g + 1, 0, none⟩ = some (.int .u8 few)
  res : W.cell? ⟨g + 2, 0, none⟩ = some (.bool false)
  resf : W.frozen? ⟨g + 2, 0, none⟩ = false
  l : W.cell? ⟨L, 0, none⟩ = some (.slice (some ⟨g1, 0, none⟩) x.count c1)
  d : W.cell? ⟨L + 1, 0, none⟩ = some (.slice (some ⟨g2, 0, none⟩) x.count c2)
  it : ItemsAt x g W g1 g2
  bk : Blk W Bk 25 #[.int .i64 x.k, .int .u64 x.n, .string x.s, .slice A' x.l.length c']
  at_ : AtB W Bk x A' c'
  gl : g ≤ L
  lb : L + 2 ≤ Bk
theorem Cx.on {x : It} {few : Int} {g L Bk g1 c1 g2 c2 : Nat} {A' : Option Addr} {c' : Nat} {W W' : World} (h : Cx x few g L Bk g1 c1 g2 c2 A' c' W) (hb : Below W.heap.size W W') : Cx x few g L Bk g1 c1 g2 c2 A' c' W' := by
  have hl := h.bk.lt
  have hg : g ≤ W.heap.size := by have := h.gl; have := h.lb; omega
  exact ⟨(hb.cell (p := ⟨g + 1, 0, none⟩) (block_lt_of_cell h.few)).trans h.few, (hb.cell (p := ⟨g + 2, 0, none⟩) (block_lt_of_cell h.res)).trans h.res, (hb.frozen (p := ⟨g + 2, 0, none⟩) (block_lt_of_cell h.res)).trans h.resf,
    (hb.cell (p := ⟨L, 0, none⟩) (block_lt_of_cell h.l)).trans h.l, (hb.cell (p := ⟨L + 1, 0, none⟩) (block_lt_of_cell h.d)).trans h.d, h.it.on hb hg, h.bk.on hb, h.at_.keep (hb.mono (Nat.le_of_lt hl)), h.gl, h.lb⟩
/-- The told one is the next of the list. -/
theorem told_next {x : It} {pre : List Told} {z : Told} (h : (pre ++ [z]).map toldOf <+: x.items 1) : (x.items 1)[pre.length]? = some (z.d, z.t) := by
  obtain ⟨r, hr⟩ := h
  rw [← hr, List.map_append, List.append_assoc, List.getElem?_append_right (by simp)]
  simp [toldOf]
theorem told_lt {x : It} {pre : List Told} {z : Told} (h : (pre ++ [z]).map toldOf <+: x.items 1) : pre.length < x.count := by
  have := h.length_le
  rw [List.length_map, List.length_append, It.length_items] at this
  exact this
theorem told_all {x : It} {xs : List Told} (h : xs.map toldOf = x.items 1) : xs.length = x.count := by
  have := congrArg List.length h
  rwa [List.length_map, It.length_items] at this
end Go.Proofs.Ytgcgidoikpbfpaa

/- Package enc: what Check calls right may be encoded; what is not great is of no great bulk. -/
namespace Go.Proofs.Ytgcgidoikpbfpaa
open Go.RowKit

theorem over_bulk : ∀ (d : Nat) (t : It), overB d t = false → t.bulk ≤ 309 * t.count := by
  intro d
  induction d with
  | zero => intro t h; cases h
  | succ d ih =>
    intro t h
    obtain ⟨k, n, s, l⟩ := t
    simp only [overB, Bool.or_eq_false_iff, It.l, It.s] at h
    have h0 := of_decide_eq_false h.1.2
    have hl : ∀ (l : List It), l.any (overB d) = false → bulkL l ≤ 309 * countL l := by
      intro l
      induction l with
      | nil => intro _; simp [bulkL]
      | cons x r ihr =>
        intro h
        rw [List.any_cons, Bool.or_eq_false_iff] at h
        have h1 := ih x h.1
        have h2 := ihr h.2
        simp only [bulkL, countL]
        omega
    have := hl l h.2
    rw [It.bulk, It.count]
    omega
theorem great_bulk {x : It} (h : greatB x = false) : x.bulk ≤ 1000000 := by
  have h1 := not_great h
  unfold greatB at h
  rw [Bool.or_eq_false_iff] at h
  have := over_bulk 80 x h.1
  omega
mutual
theorem ok_all (t : It) (d : Nat) (h : ∀ p ∈ t.items d, okTop p.2) : t.okE := by
  obtain ⟨k, n, s, l⟩ := t
  rw [It.okE]
  rw [It.items] at h
  exact ⟨h _ (List.mem_cons_self ..), okL_all l (d + 1) fun p hp => h p (List.mem_cons_of_mem _ hp)⟩
theorem okL_all (l : List It) (d : Nat) (h : ∀ p ∈ itemsL l d, okTop p.2) : okEL l := by
  cases l with
  | nil => simp [okEL]
  | cons t r =>
    rw [itemsL] at h
    rw [okEL]
    exact ⟨ok_all t d fun p hp => h p (List.mem_append_left _ hp), okL_all r d fun p hp => h p (List.mem_append_right _ hp)⟩
end
theorem firstErr_zero : ∀ {l : List Int}, firstErr l = 0 → ∀ e ∈ l, e = 0
  | [], _, e, he => by cases he
  | x :: r, h, e, he => by
    unfold firstErr at h
    by_cases hx : x = 0
    · rw [if_neg (by simpa using hx)] at h
      rcases List.mem_cons.1 he with rfl | he
      · exact hx
      · exact firstErr_zero h e he
    · rw [if_pos hx] at h
      exact absurd h hx
theorem wrong_zero {t : It} (h : wrongI t = 0) : formB t = true ∧ rangB t = true := by
  unfold wrongI at h
  by_cases h1 : formB t = false
  · rw [if_pos h1] at h; cases h
  · rw [if_neg h1] at h
    by_cases h2 : rangB t = false
    · rw [if_pos h2] at h; cases h
    · exact ⟨by simpa using h1, by simpa using h2⟩
theorem check_ok {N : Nat} {x : It} (hN : N ≤ 1099511627776) (hx : okI N x) (h : checkR wrongI x = 0) : x.okE := by
  refine ok_all x 1 fun p hp => ?_
  have h1 : wrongI p.2 = 0 := by
    unfold checkR at h
    by_cases h64 : 64 < x.depth
    · rw [if_pos h64] at h; cases h
    · rw [if_neg h64] at h
      exact firstErr_zero h _ (List.mem_map_of_mem hp)
  obtain ⟨a, b⟩ := wrong_zero h1
  obtain ⟨c, d, e, f⟩ := okI_item hx (d := p.1) (t := p.2) hp
  refine ⟨a, b, c, d, by omega, ?_⟩
  have : p.2.l.length ≤ p.2.count := by
    rw [It.count_eq]
    have : ∀ l : List It, l.length ≤ countL l := fun l => by
      induction l with
      | nil => simp [countL]
      | cons x r ih => rw [countL, List.length_cons]; have := count_pos x; omega
    have := this p.2.l
    omega
  omega

end Go.Proofs.Ytgcgidoikpbfpaa

/- Package limit, plain: the longest key; what an item has, what stands in it has, too. -/
namespace Go.Proofs.Ytgcgidoikpbfpaa
open Go.RowKit

mutual
/-- How many bytes the longest key has. -/
noncomputable def It.lkey : It → Nat
  | .mk k _ _ l => lkeyL (decide (k = 5)) true l
noncomputable def lkeyL (m : Bool) : Bool → List It → Nat
  | _, [] => 0
  | e, t :: r => max (if (m && e) = true then t.enc.length else t.lkey) (lkeyL m (!e) r)
end
theorem It.lkey_eq (t : It) : t.lkey = lkeyL (decide (t.k = 5)) true t.l := by cases t; rw [It.lkey]; rfl
theorem lkeyL_snoc (m : Bool) (t : It) : ∀ (l : List It) (e : Bool), lkeyL m e (l ++ [t]) = max (lkeyL m e l) (if (m && (e == decide (l.length % 2 = 0))) = true then t.enc.length else t.lkey)
  | [], e => by simp [lkeyL]
  | x :: r, e => by
    rw [List.cons_append, lkeyL, lkeyL, lkeyL_snoc m t r (!e), Nat.max_assoc]
    have h : ((!e) == decide (r.length % 2 = 0)) = (e == decide ((x :: r).length % 2 = 0)) := by
      rw [List.length_cons]
      by_cases h : r.length % 2 = 0
      · rw [decide_eq_true h, decide_eq_false (by omega)]; cases e <;> rfl
      · rw [decide_eq_false h, decide_eq_true (by omega)]; cases e <;> rfl
    rw [h]
mutual
theorem lkey_le (x : It) : x.lkey ≤ x.enc.length := by
  obtain ⟨k, n, s, l⟩ := x
  have h := lkeyL_le (decide (k = 5)) true l
  rw [It.lkey, It.enc, List.length_append, List.length_append]
  omega
theorem lkeyL_le (m e : Bool) (l : List It) : lkeyL m e l ≤ (encL l).length := by
  cases l with
  | nil => simp [lkeyL]
  | cons x r =>
    have h1 := lkey_le x
    have h2 := lkeyL_le m (!e) r
    rw [lkeyL, encL, List.length_append]
    split <;> omega
end
mutual
theorem items_up (t : It) (d : Nat) : t.items (d + 1) = (t.items d).map fun p => (p.1 + 1, p.2) := by
  obtain ⟨k, n, s, l⟩ := t
  rw [It.items, It.items, itemsL_up l (d + 1)]
  rfl
theorem itemsL_up (l : List It) (d : Nat) : itemsL l (d + 1) = (itemsL l d).map fun p => (p.1 + 1, p.2) := by
  cases l with
  | nil => rfl
  | cons t r => rw [itemsL, itemsL, items_up t d, itemsL_up r d, List.map_append]
end
theorem items_sub {x y : It} (h : y ∈ x.l) (d : Nat) : ∀ p ∈ y.items (d + 1), p ∈ x.items d := fun p hp => by
  rw [It.items_eq]
  refine List.mem_cons_of_mem _ ?_
  have : ∀ l : List It, y ∈ l → p ∈ itemsL l (d + 1) := fun l => by
    induction l with
    | nil => intro h; cases h
    | cons t r ih =>
      intro h
      rw [itemsL]
      rcases List.mem_cons.1 h with rfl | h
      · exact List.mem_append_left _ hp
      · exact List.mem_append_right _ (ih h)
  exact this x.l h
theorem items_any {x y : It} (h : y ∈ x.l) : ∀ p ∈ y.items 1, (p.1 + 1, p.2) ∈ x.items 1 := fun p hp => items_sub h 1 _ (by rw [items_up]; exact List.mem_map.2 ⟨p, hp, rfl⟩)
theorem okI_sub {N : Nat} {x y : It} (hx : okI N x) (h : y ∈ x.l) : okI N y := by
  refine ⟨Nat.le_trans (count_le_of_mem h) (by have := hx.1; rw [It.count_eq] at this; omega), fun d p hp => ?_⟩
  have hu : (p.1 + 1, p.2) ∈ y.items (d + 1) := by rw [items_up]; exact List.mem_map.2 ⟨p, hp, rfl⟩
  exact hx.2 d (p.1 + 1, p.2) (items_sub h d _ hu)
theorem depth_sub {x y : It} (h : y ∈ x.l) : y.depth + 1 ≤ x.depth := by
  have h0 : 1 ≤ x.depth := le_mostOf (List.mem_map.2 ⟨(1, x), by rw [It.items_eq]; exact List.mem_cons_self .., rfl⟩)
  have : y.depth ≤ x.depth - 1 := mostOf_le fun d hd => by
    obtain ⟨p, hp, rfl⟩ := List.mem_map.1 hd
    have : p.1 + 1 ≤ x.depth := le_mostOf (List.mem_map.2 ⟨(p.1 + 1, p.2), items_any h p hp, rfl⟩)
    omega
  omega
theorem check_sub {x y : It} (hx : checkR wrongI x = 0) (h : y ∈ x.l) : checkR wrongI y = 0 := by
  unfold checkR at hx ⊢
  have hd := depth_sub h
  by_cases h64 : 64 < x.depth
  · rw [if_pos h64] at hx; cases hx
  · rw [if_neg h64] at hx
    rw [if_neg (by omega)]
    refine firstErr_all fun e he => ?_
    obtain ⟨p, hp, rfl⟩ := List.mem_map.1 he
    exact firstErr_zero hx _ (List.mem_map.2 ⟨_, items_any h p hp, rfl⟩)
theorem bulk_sub {x y : It} (h : y ∈ x.l) : y.bulk ≤ x.bulk := by
  obtain ⟨k, n, s, l⟩ := x
  have : ∀ l : List It, y ∈ l → y.bulk ≤ bulkL l := fun l => by
    induction l with
    | nil => intro h; cases h
    | cons t r ih =>
      intro h
      rw [bulkL]
      rcases List.mem_cons.1 h with rfl | h
      · omega
      · have := ih h; omega
  have := this l h
  rw [It.bulk]
  omega
theorem depth_pos (x : It) : 1 ≤ x.depth := le_mostOf (List.mem_map.2 ⟨(1, x), by rw [It.items_eq]; exact List.mem_cons_self .., rfl⟩)
/-- Are limits right? -/
def rightL (d k s : Int) : Bool := decide (1 ≤ d) && decide (d ≤ 64) && (decide (1 ≤ k) && decide (k ≤ 1024)) && (decide (1 ≤ s) && decide (s ≤ 2305843009213693951))
theorem rightL_true {d k s : Int} : rightL d k s = true ↔ 1 ≤ d ∧ d ≤ 64 ∧ 1 ≤ k ∧ k ≤ 1024 ∧ 1 ≤ s ∧ s ≤ 2305843009213693951 := by
  simp only [rightL, Bool.and_eq_true, decide_eq_true_eq, and_assoc]
/-- What Check tells of limits. -/
def rightR (d k s : Int) : Int := if rightL d k s = true then 0 else 15
/-- What Fits tells of an item. -/
noncomputable def fitsR (x : It) (d k s : Int) : Int :=
  if rightL d k s = false then 15 else if checkR wrongI x ≠ 0 then checkR wrongI x else if s < (x.enc.length : Int) then 1 else if d < (x.depth : Int) then 3 else if k < (x.lkey : Int) then 4 else 0
theorem fitsR_zero {x : It} {d k s : Int} : fitsR x d k s = 0 ↔ rightL d k s = true ∧ checkR wrongI x = 0 ∧ (x.enc.length : Int) ≤ s ∧ (x.depth : Int) ≤ d ∧ (x.lkey : Int) ≤ k := by
  unfold fitsR
  by_cases h1 : rightL d k s = false
  · rw [if_pos h1, h1]; simp
  · rw [if_neg h1]
    by_cases h2 : checkR wrongI x ≠ 0
    · rw [if_pos h2]; exact ⟨fun h => absurd h h2, fun h => absurd h.2.1 h2⟩
    · rw [if_neg h2]
      have h1' : rightL d k s = true := by simpa using h1
      have h2' : checkR wrongI x = 0 := Decidable.not_not.1 h2
      by_cases h3 : s < (x.enc.length : Int)
      · rw [if_pos h3]; exact ⟨fun h => absurd h (by decide), fun h => absurd h.2.2.1 (by omega)⟩
      · rw [if_neg h3]
        by_cases h4 : d < (x.depth : Int)
        · rw [if_pos h4]; exact ⟨fun h => absurd h (by decide), fun h => absurd h.2.2.2.1 (by omega)⟩
        · rw [if_neg h4]
          by_cases h5 : k < (x.lkey : Int)
          · rw [if_pos h5]; exact ⟨fun h => absurd h (by decide), fun h => absurd h.2.2.2.2 (by omega)⟩
          · rw [if_neg h5]; exact ⟨fun _ => ⟨h1', h2', by omega, by omega, by omega⟩, fun _ => rfl⟩
end Go.Proofs.Ytgcgidoikpbfpaa
