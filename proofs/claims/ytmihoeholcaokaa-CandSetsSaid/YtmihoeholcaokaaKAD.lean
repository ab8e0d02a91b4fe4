/- Items as plain trees: all items in one, their order, what a stack of lists still has to tell, orders that part whatever differs. -/
namespace Go.Proofs.Ytmihoeholcaokaa

/-- An item: its kind, its number, its text, its items. -/
inductive It where
  | mk (k n : Int) (s : ByteArray) (l : List It)
namespace It
def k : It → Int | mk k _ _ _ => k
def n : It → Int | mk _ n _ _ => n
def s : It → ByteArray | mk _ _ s _ => s
def l : It → List It | mk _ _ _ l => l
theorem eta (t : It) : t = .mk t.k t.n t.s t.l := by cases t; rfl
theorem ext {a b : It} (h1 : a.k = b.k) (h2 : a.n = b.n) (h3 : a.s = b.s) (h4 : a.l = b.l) : a = b := by cases a; cases b; cases h1; cases h2; cases h3; cases h4; rfl
end It
instance : Inhabited It := ⟨.mk 0 0 ⟨#[]⟩ []⟩

mutual
/-- How many items there are. -/
def It.count : It → Nat
  | .mk _ _ _ l => countL l + 1
def countL : List It → Nat
  | [] => 0
  | t :: r => t.count + countL r
end
theorem It.count_eq (t : It) : t.count = countL t.l + 1 := by cases t; simp [It.count, It.l]
theorem countL_append (a b : List It) : countL (a ++ b) = countL a + countL b := by
  induction a with
  | nil => simp [countL]
  | cons x r ih => simp [countL, ih]; omega
theorem length_le_countL (a : List It) : a.length ≤ countL a := by
  induction a with
  | nil => simp [countL]
  | cons x r ih => have := It.count_eq x; simp [countL]; omega
theorem count_le_of_mem {t : It} {l : List It} (h : t ∈ l) : t.count ≤ countL l := by
  induction l with
  | nil => cases h
  | cons x r ih =>
    simp only [countL]
    rcases List.mem_cons.1 h with rfl | h
    · omega
    · have := ih h; omega
theorem countL_drop_le (l : List It) (i : Nat) : countL (l.drop i) ≤ countL l := by
  have h := countL_append (l.take i) (l.drop i)
  rw [List.take_append_drop] at h
  omega
theorem countL_drop {l : List It} {i : Nat} (h : i < l.length) : countL (l.drop i) = l[i].count + countL (l.drop (i + 1)) := by
  rw [List.drop_eq_getElem_cons h]; simp [countL]

mutual
/-- It, and all in it, in order, with how deep each stands. -/
def It.items : It → Nat → List (Nat × It)
  | .mk k n s l, d => (d, .mk k n s l) :: itemsL l (d + 1)
def itemsL : List It → Nat → List (Nat × It)
  | [], _ => []
  | t :: r, d => t.items d ++ itemsL r d
end
theorem It.items_eq (t : It) (d : Nat) : t.items d = (d, t) :: itemsL t.l (d + 1) := by cases t; simp [It.items, It.l]
theorem itemsL_append (a b : List It) (d : Nat) : itemsL (a ++ b) d = itemsL a d ++ itemsL b d := by
  induction a with
  | nil => simp [itemsL]
  | cons x r ih => simp [itemsL, ih]
mutual
theorem It.length_items (t : It) (d : Nat) : (t.items d).length = t.count := by
  cases t with | mk k n s l => simp [It.items, It.count, length_itemsL l]
theorem length_itemsL (l : List It) (d : Nat) : (itemsL l d).length = countL l := by
  cases l with
  | nil => simp [itemsL, countL]
  | cons t r => simp [itemsL, countL, It.length_items t, length_itemsL r]
end
mutual
/-- How deep an item stands is at least where it begins, and less than so many behind it. -/
theorem It.items_deep (t : It) (d : Nat) : ∀ p ∈ t.items d, d ≤ p.1 ∧ p.1 < d + t.count := by
  cases t with
  | mk k n s l =>
    intro p hp
    simp only [It.items, List.mem_cons, It.count] at hp ⊢
    rcases hp with rfl | hp
    · exact ⟨Nat.le_refl _, by show d < d + (countL l + 1); omega⟩
    · have := itemsL_deep l (d + 1) p hp
      omega
theorem itemsL_deep (l : List It) (d : Nat) : ∀ p ∈ itemsL l d, d ≤ p.1 ∧ p.1 < d + countL l := by
  cases l with
  | nil => intro p hp; simp [itemsL] at hp
  | cons t r =>
    intro p hp
    simp only [itemsL, List.mem_append, countL] at hp ⊢
    rcases hp with hp | hp
    · have := It.items_deep t d p hp; omega
    · have := itemsL_deep r d p hp; omega
end

/-- The greatest of numbers, 0 if there are none. -/
def mostOf (l : List Nat) : Nat := l.foldl max 0
theorem mostOf_snoc (l : List Nat) (x : Nat) : mostOf (l ++ [x]) = max (mostOf l) x := by simp [mostOf]
theorem mostOf_le {l : List Nat} {B : Nat} (h : ∀ x ∈ l, x ≤ B) : mostOf l ≤ B := by
  unfold mostOf
  suffices H : ∀ (l : List Nat) (a : Nat), a ≤ B → (∀ x ∈ l, x ≤ B) → l.foldl max a ≤ B from H l 0 (Nat.zero_le _) h
  intro l
  induction l with
  | nil => intro a ha _; exact ha
  | cons x r ih => intro a ha hx; exact ih _ (by have := hx x (by simp); omega) (fun y hy => hx y (by simp [hy]))
theorem le_mostOf {l : List Nat} {x : Nat} (h : x ∈ l) : x ≤ mostOf l := by
  unfold mostOf
  suffices H : ∀ (l : List Nat) (a : Nat), (x = a ∨ x ∈ l ∨ x ≤ a) → x ≤ l.foldl max a from H l 0 (.inr (.inl h))
  intro l
  induction l with
  | nil => intro a ha; rcases ha with rfl | ha | ha <;> simp_all
  | cons y r ih =>
    intro a ha
    refine ih _ ?_
    rcases ha with rfl | ha | ha
    · exact .inr (.inr (Nat.le_max_left _ _))
    · rcases List.mem_cons.1 ha with rfl | ha
      · exact .inr (.inr (Nat.le_max_right _ _))
      · exact .inr (.inl ha)
    · exact .inr (.inr (by omega))
theorem mostOf_gt {l : List Nat} {B : Nat} : B < mostOf l ↔ ∃ x ∈ l, B < x := by
  constructor
  · intro h
    by_cases hx : ∃ x ∈ l, B < x
    · exact hx
    · have := mostOf_le (l := l) (B := B) (fun x hx' => Nat.le_of_not_lt fun hlt => hx ⟨x, hx', hlt⟩)
      omega
  · rintro ⟨x, hx, hb⟩
    have := le_mostOf hx
    omega
/-- Its depth. -/
def It.depth (t : It) : Nat := mostOf ((t.items 1).map (·.1))
theorem It.depth_le (t : It) : t.depth ≤ t.count := mostOf_le fun x hx => by
  obtain ⟨p, hp, rfl⟩ := List.mem_map.1 hx
  have := It.items_deep t 1 p hp
  omega

/-- The first number that isn't 0. -/
def firstErr : List Int → Int
  | [] => 0
  | e :: r => if e ≠ 0 then e else firstErr r
theorem firstErr_append_zero {a b : List Int} (h : ∀ x ∈ a, x = 0) : firstErr (a ++ b) = firstErr b := by
  induction a with
  | nil => rfl
  | cons x r ih => simp [firstErr, h x (by simp), ih (fun y hy => h y (by simp [hy]))]
theorem firstErr_all {a : List Int} (h : ∀ x ∈ a, x = 0) : firstErr a = 0 := by
  have := firstErr_append_zero (b := []) h
  simpa [firstErr] using this
theorem firstErr_at {a b : List Int} {e : Int} (h : ∀ x ∈ a, x = 0) (he : e ≠ 0) : firstErr (a ++ e :: b) = e := by
  rw [firstErr_append_zero h]; simp [firstErr, he]

/-! ### A stack of lists of items: what is still to be told (the deepest list first) -/
def stk : List (List It) → List (Nat × It)
  | [] => []
  | p :: r => itemsL p (r.length + 1) ++ stk r
def stkM : List (List It) → Nat
  | [] => 0
  | p :: r => 2 * countL p + 1 + stkM r
theorem stk_pop (r : List (List It)) : stk ([] :: r) = stk r := by simp [stk, itemsL]
theorem stk_step (t : It) (p : List It) (r : List (List It)) : stk ((t :: p) :: r) = (r.length + 1, t) :: stk (t.l :: p :: r) := by
  simp [stk, itemsL, It.items_eq]
theorem stk_one (t : It) : stk [[t]] = t.items 1 := by simp [stk, itemsL]
theorem stkM_pop (r : List (List It)) : stkM r < stkM ([] :: r) := by simp [stkM, countL]
theorem stkM_step (t : It) (p : List It) (r : List (List It)) : stkM (t.l :: p :: r) < stkM ((t :: p) :: r) := by
  have := It.count_eq t
  simp [stkM, countL]; omega

/-! ### Orders by numbers below, at, above 0 -/
structure Cmp {α : Type} (c : α → α → Int) : Prop where
  anti : ∀ x y, c y x = - c x y
  tr : ∀ x y z, c x y < 0 → c y z < 0 → c x z < 0
  same : ∀ x y z, c x y = 0 → c x z = c y z
section
variable {α β : Type} {c c1 c2 : α → α → Int}
theorem Cmp.refl (h : Cmp c) (x : α) : c x x = 0 := by have := h.anti x x; omega
theorem Cmp.same' (h : Cmp c) {x y z : α} (e : c x y = 0) : c z x = c z y := by
  have h1 := h.same x y z e
  have h2 := h.anti x z
  have h3 := h.anti y z
  omega
theorem Cmp.le_trans (h : Cmp c) {x y z : α} (h1 : c x y ≤ 0) (h2 : c y z ≤ 0) : c x z ≤ 0 := by
  by_cases e1 : c x y = 0
  · have := h.same x y z e1; omega
  · by_cases e2 : c y z = 0
    · have := h.same' (z := x) e2; omega
    · have := h.tr x y z (by omega) (by omega); omega
theorem Cmp.pull (h : Cmp c) (f : β → α) : Cmp fun x y => c (f x) (f y) := ⟨fun _ _ => h.anti _ _, fun _ _ _ => h.tr _ _ _, fun _ _ _ => h.same _ _ _⟩
def thenC (c1 c2 : α → α → Int) (x y : α) : Int := if c1 x y ≠ 0 then c1 x y else c2 x y
theorem Cmp.then (h1 : Cmp c1) (h2 : Cmp c2) : Cmp (thenC c1 c2) where
  anti x y := by
    unfold thenC
    have a := h1.anti x y
    have b := h2.anti x y
    by_cases e : c1 x y = 0
    · rw [if_neg (by omega), if_neg (by omega)]; exact b
    · rw [if_pos (by omega), if_pos (by omega)]; exact a
  tr x y z := by
    unfold thenC
    intro p q
    by_cases e : c1 x y = 0
    · rw [if_neg (by omega)] at p
      have s := h1.same x y z e
      by_cases f : c1 y z = 0
      · rw [if_neg (by omega)] at q
        rw [if_neg (by omega)]
        exact h2.tr x y z p q
      · rw [if_pos f] at q
        rw [if_pos (by omega), s]; exact q
    · rw [if_pos e] at p
      by_cases f : c1 y z = 0
      · have s := h1.same' (z := x) f
        rw [if_pos (by omega)]; omega
      · rw [if_pos f] at q
        have := h1.tr x y z p q
        rw [if_pos (by omega)]; exact this
  same x y z := by
    unfold thenC
    intro p
    by_cases e : c1 x y = 0
    · rw [if_neg (by omega)] at p
      rw [h1.same x y z e, h2.same x y z p]
    · rw [if_pos e] at p; omega
theorem thenC_zero {x y : α} : thenC c1 c2 x y = 0 ↔ c1 x y = 0 ∧ c2 x y = 0 := by
  unfold thenC
  by_cases e : c1 x y = 0 <;> simp [e]
/-- One by one; where one list ends first, it is ahead. -/
def seqC (c : α → α → Int) : List α → List α → Int
  | [], [] => 0
  | [], _ :: _ => -1
  | _ :: _, [] => 1
  | x :: xs, y :: ys => if c x y ≠ 0 then c x y else seqC c xs ys
theorem Cmp.seq (h : Cmp c) : Cmp (seqC c) where
  anti := by
    intro xs
    induction xs with
    | nil => intro ys; cases ys <;> simp [seqC]
    | cons x xs ih =>
      intro ys
      cases ys with
      | nil => simp [seqC]
      | cons y ys =>
        have a := h.anti x y
        have b := ih ys
        simp only [seqC]
        by_cases e : c x y = 0
        · rw [if_neg (by omega), if_neg (by omega)]; exact b
        · rw [if_pos (by omega), if_pos (by omega)]; exact a
  tr := by
    intro xs
    induction xs with
    | nil => intro ys zs p q; cases ys <;> cases zs <;> simp_all [seqC]
    | cons x xs ih =>
      intro ys zs p q
      cases ys with
      | nil => simp [seqC] at p
      | cons y ys =>
        cases zs with
        | nil => simp [seqC] at q
        | cons z zs =>
          simp only [seqC] at p q ⊢
          by_cases e : c x y = 0
          · rw [if_neg (by omega)] at p
            have s := h.same x y z e
            by_cases f : c y z = 0
            · rw [if_neg (by omega)] at q
              rw [if_neg (by omega)]
              exact ih ys zs p q
            · rw [if_pos f] at q
              rw [if_pos (by omega), s]; exact q
          · rw [if_pos e] at p
            by_cases f : c y z = 0
            · have s := h.same' (z := x) f
              rw [if_pos (by omega)]; omega
            · rw [if_pos f] at q
              have := h.tr x y z p q
              rw [if_pos (by omega)]; exact this
  same := by
    intro xs
    induction xs with
    | nil => intro ys zs p; cases ys with
      | nil => rfl
      | cons y ys => simp [seqC] at p
    | cons x xs ih =>
      intro ys zs p
      cases ys with
      | nil => simp [seqC] at p
      | cons y ys =>
        simp only [seqC] at p
        by_cases e : c x y = 0
        · rw [if_neg (by omega)] at p
          cases zs with
          | nil => rfl
          | cons z zs => simp only [seqC]; rw [h.same x y z e, ih ys zs p]
        · rw [if_pos e] at p; omega
/-- Beginnings that are alike play no part. -/
theorem seqC_skip {xs ys : List α} (hl : xs.length = ys.length) (h : ∀ i (hi : i < xs.length), c xs[i] (ys[i]'(by omega)) = 0) (a b : List α) : seqC c (xs ++ a) (ys ++ b) = seqC c a b := by
  induction xs generalizing ys with
  | nil => cases ys with
    | nil => rfl
    | cons y ys => simp at hl
  | cons x xs ih =>
    cases ys with
    | nil => simp at hl
    | cons y ys =>
      have h0 := h 0 (by simp)
      simp only [List.getElem_cons_zero] at h0
      simp only [List.cons_append, seqC]
      rw [if_neg (by omega)]
      exact ih (by simpa using hl) (fun i hi => h (i + 1) (by simpa using hi))
theorem seqC_zero_take {xs ys : List α} (hl : xs.length = ys.length) {a b : List α} (h : seqC c (xs ++ a) (ys ++ b) = 0) : (∀ i (hi : i < xs.length), c xs[i] (ys[i]'(by omega)) = 0) ∧ seqC c a b = 0 := by
  induction xs generalizing ys with
  | nil => cases ys with
    | nil => exact ⟨fun i hi => absurd hi (by simp), h⟩
    | cons y ys => simp at hl
  | cons x xs ih =>
    cases ys with
    | nil => simp at hl
    | cons y ys =>
      simp only [List.cons_append, seqC] at h
      by_cases e : c x y = 0
      · rw [if_neg (by omega)] at h
        obtain ⟨h1, h2⟩ := ih (by simpa using hl) h
        refine ⟨fun i hi => ?_, h2⟩
        cases i with
        | zero => exact e
        | succ i => simpa using h1 i (by simpa using hi)
      · rw [if_pos e] at h; omega
end
def intC (a b : Int) : Int := if a < b then -1 else if b < a then 1 else 0
theorem intC_cmp : Cmp intC where
  anti x y := by unfold intC; by_cases h1 : x < y <;> by_cases h2 : y < x <;> simp [h1, h2] <;> omega
  tr x y z := by unfold intC; intro p q; by_cases h1 : x < y <;> by_cases h2 : y < z <;> simp_all <;> (try split at p) <;> (try split at q) <;> (try split) <;> omega
  same x y z := by
    unfold intC; intro p
    by_cases h1 : x < y
    · simp [h1] at p
    · by_cases h2 : y < x
      · simp [h1, h2] at p
      · rw [show x = y by omega]
theorem intC_zero {a b : Int} : intC a b = 0 ↔ a = b := by unfold intC; by_cases h1 : a < b <;> by_cases h2 : b < a <;> simp [h1, h2] <;> omega

/-- Two items by their fields, and how many items there are in each. -/
def textC (a b : ByteArray) : Int := seqC intC (a.data.toList.map fun c => (c.toNat : Int)) (b.data.toList.map fun c => (c.toNat : Int))
def oneC : It → It → Int := thenC (fun a b => intC a.k b.k) (thenC (fun a b => intC a.n b.n) (thenC (fun a b => intC a.l.length b.l.length) (fun a b => textC a.s b.s)))
theorem oneC_cmp : Cmp oneC := (intC_cmp.pull It.k).then ((intC_cmp.pull It.n).then ((intC_cmp.pull fun t : It => (t.l.length : Int)).then ((intC_cmp.seq.pull fun s : ByteArray => s.data.toList.map fun c : UInt8 => (c.toNat : Int)).pull It.s)))
theorem seqC_eq {xs ys : List Int} : seqC intC xs ys = 0 ↔ xs = ys := by
  constructor
  · induction xs generalizing ys with
    | nil => intro h; cases ys with
      | nil => rfl
      | cons y ys => simp [seqC] at h
    | cons x xs ih =>
      intro h
      cases ys with
      | nil => simp [seqC] at h
      | cons y ys =>
        simp only [seqC] at h
        by_cases e : intC x y = 0
        · rw [if_neg (by omega)] at h
          rw [intC_zero.1 e, ih h]
        · rw [if_pos e] at h; omega
  · rintro rfl; exact intC_cmp.seq.refl _
theorem textC_zero {a b : ByteArray} : textC a b = 0 ↔ a = b := by
  unfold textC
  rw [seqC_eq]
  constructor
  · intro h
    have e : a.data.toList = b.data.toList := by
      refine List.map_inj_right (f := fun c : UInt8 => (c.toNat : Int)) (fun x y h => ?_) |>.1 h
      exact UInt8.toNat_inj.1 (by have := h; omega)
    cases a; cases b
    simp only [ByteArray.mk.injEq]
    exact Array.toList_inj.1 e
  · rintro rfl; rfl
theorem oneC_zero {a b : It} : oneC a b = 0 ↔ a.k = b.k ∧ a.n = b.n ∧ a.l.length = b.l.length ∧ a.s = b.s := by
  unfold oneC
  simp only [thenC_zero, intC_zero, textC_zero, Int.natCast_inj]

/-! ### Items held against each other, list by list -/
/-- The lists of those that have items, in their order. -/
def kids (p : List It) : List (List It) := (p.filter fun t => !t.l.isEmpty).map It.l
theorem kids_append (a b : List It) : kids (a ++ b) = kids a ++ kids b := by simp [kids]
theorem kids_one (t : It) : kids [t] = if t.l.isEmpty then [] else [t.l] := by unfold kids; cases h : t.l.isEmpty <;> simp [h]
def stSize : List (List It) → Nat
  | [] => 0
  | p :: r => countL p + 1 + stSize r
theorem stSize_append (a b : List (List It)) : stSize (a ++ b) = stSize a + stSize b := by
  induction a with
  | nil => simp [stSize]
  | cons x r ih => simp [stSize, ih]; omega
theorem stSize_reverse (a : List (List It)) : stSize a.reverse = stSize a := by
  induction a with
  | nil => rfl
  | cons x r ih => simp [stSize_append, stSize, ih]; omega
theorem stSize_kids (p : List It) : stSize (kids p) ≤ countL p := by
  induction p with
  | nil => simp [kids, stSize, countL]
  | cons t r ih =>
    have e : kids (t :: r) = kids [t] ++ kids r := kids_append [t] r
    have hc := It.count_eq t
    rw [e, stSize_append, kids_one]
    simp only [countL]
    by_cases h : t.l.isEmpty = true <;> simp [h, stSize] <;> omega
def push (p : List It) (r : List (List It)) : List (List It) := (kids p).reverse ++ r
theorem stSize_push (p : List It) (r : List (List It)) : stSize (push p r) < stSize (p :: r) := by
  have := stSize_kids p
  unfold push
  rw [stSize_append, stSize_reverse]
  simp [stSize]; omega
/-- In which order a stack's items are looked at. -/
def trav : List (List It) → List It
  | [] => []
  | p :: r => p ++ trav (push p r)
termination_by st => stSize st
decreasing_by exact stSize_push p r
theorem trav_nil : trav [] = [] := by rw [trav]
theorem trav_cons (p : List It) (r : List (List It)) : trav (p :: r) = p ++ trav (push p r) := by rw [trav]
/-- So many lists in each, as long as in the other. -/
def shape (st : List (List It)) : List Nat := st.map List.length
theorem shape_kids {p q : List It} (hl : p.length = q.length) (h : ∀ i (hi : i < p.length), oneC p[i] (q[i]'(by omega)) = 0) : shape (kids p) = shape (kids q) := by
  induction p generalizing q with
  | nil => cases q with
    | nil => rfl
    | cons y ys => simp at hl
  | cons x p ih =>
    cases q with
    | nil => simp at hl
    | cons y q =>
      have e0 := h 0 (by simp)
      simp only [List.getElem_cons_zero] at e0
      have hx := (oneC_zero.1 e0).2.2.1
      have hr := ih (q := q) (by simpa using hl) (fun i hi => h (i + 1) (by simpa using hi))
      rw [show kids (x :: p) = kids [x] ++ kids p from kids_append [x] p, show kids (y :: q) = kids [y] ++ kids q from kids_append [y] q]
      unfold shape at hr ⊢
      rw [List.map_append, List.map_append, hr]
      congr 1
      rw [kids_one, kids_one]
      have : x.l.isEmpty = y.l.isEmpty := by
        rw [Bool.eq_iff_iff, List.isEmpty_iff_length_eq_zero, List.isEmpty_iff_length_eq_zero, hx]
      rw [this]
      by_cases hy : y.l.isEmpty = true <;> simp [hy, hx]
theorem shape_push {p q : List It} {r s : List (List It)} (hl : p.length = q.length) (h : ∀ i (hi : i < p.length), oneC p[i] (q[i]'(by omega)) = 0) (hs : shape r = shape s) : shape (push p r) = shape (push q s) := by
  have := shape_kids hl h
  unfold push shape at *
  rw [List.map_append, List.map_append, List.map_reverse, List.map_reverse, this, hs]
/-- Two items, held against each other. -/
def itC (a b : It) : Int := seqC oneC (trav [[a]]) (trav [[b]])
theorem itC_cmp : Cmp itC := oneC_cmp.seq.pull fun t => trav [[t]]
theorem kids_inj {p q : List It} (hl : p.length = q.length) (h : ∀ i (hi : i < p.length), oneC p[i] (q[i]'(by omega)) = 0) (hk : kids p = kids q) : p = q := by
  induction p generalizing q with
  | nil => cases q with
    | nil => rfl
    | cons y ys => simp at hl
  | cons x p ih =>
    cases q with
    | nil => simp at hl
    | cons y q =>
      have e0 := h 0 (by simp)
      simp only [List.getElem_cons_zero] at e0
      obtain ⟨h1, h2, h3, h4⟩ := oneC_zero.1 e0
      rw [show kids (x :: p) = kids [x] ++ kids p from kids_append [x] p, show kids (y :: q) = kids [y] ++ kids q from kids_append [y] q, kids_one, kids_one] at hk
      have he : x.l.isEmpty = y.l.isEmpty := by
        rw [Bool.eq_iff_iff, List.isEmpty_iff_length_eq_zero, List.isEmpty_iff_length_eq_zero, h3]
      rw [he] at hk
      have hx : x.l = y.l ∧ kids p = kids q := by
        by_cases hy : y.l.isEmpty = true
        · simp only [hy, if_true, List.nil_append] at hk
          rw [hy] at he
          exact ⟨(List.isEmpty_iff.1 he).trans (List.isEmpty_iff.1 hy).symm, hk⟩
        · simp only [hy, if_false, Bool.false_eq_true, List.cons_append, List.nil_append, List.cons.injEq] at hk
          exact hk
      rw [It.ext h1 h2 h4 hx.1, ih (by simpa using hl) (fun i hi => h (i + 1) (by simpa using hi)) hx.2]
theorem trav_inj : ∀ (m : Nat) (sa sb : List (List It)), stSize sa ≤ m → shape sa = shape sb → seqC oneC (trav sa) (trav sb) = 0 → sa = sb := by
  intro m
  induction m with
  | zero =>
    intro sa sb hm hs _
    cases sa with
    | nil => cases sb with
      | nil => rfl
      | cons q s => simp [shape] at hs
    | cons p r => simp [stSize] at hm
  | succ m ih =>
    intro sa sb hm hs hz
    cases sa with
    | nil => cases sb with
      | nil => rfl
      | cons q s => simp [shape] at hs
    | cons p r =>
      cases sb with
      | nil => simp [shape] at hs
      | cons q s =>
        have hs' := hs
        simp only [shape, List.map_cons, List.cons.injEq] at hs
        rw [trav_cons, trav_cons] at hz
        obtain ⟨h1, h2⟩ := seqC_zero_take hs.1 hz
        have hlt := stSize_push p r
        have hp := ih (push p r) (push q s) (by omega) (shape_push hs.1 h1 hs.2) h2
        unfold push at hp
        have hk := shape_kids hs.1 h1
        have hlen : (kids p).reverse.length = (kids q).reverse.length := by
          have := congrArg List.length hk
          simpa [shape] using this
        obtain ⟨ha, hb⟩ := List.append_inj hp hlen
        rw [kids_inj hs.1 h1 (by simpa using ha), hb]
theorem itC_zero {a b : It} : itC a b = 0 ↔ a = b := by
  constructor
  · intro h
    have := trav_inj _ [[a]] [[b]] (Nat.le_refl _) rfl h
    simpa using this
  · rintro rfl; exact itC_cmp.refl _
/-- The first step: the two themselves, then their items. -/
theorem itC_one {a b : It} (h : oneC a b ≠ 0) : itC a b = oneC a b := by
  unfold itC
  rw [trav_cons, trav_cons]
  simp [seqC, h]
theorem itC_more {a b : It} (h : oneC a b = 0) : itC a b = seqC oneC (trav [a.l]) (trav [b.l]) := by
  have hl := (oneC_zero.1 h).2.2.1
  unfold itC
  rw [trav_cons [a], trav_cons [b]]
  simp only [List.cons_append, List.nil_append, seqC, h, ne_eq, not_true_eq_false, if_false]
  unfold push
  rw [kids_one, kids_one]
  have he : a.l.isEmpty = b.l.isEmpty := by
    rw [Bool.eq_iff_iff, List.isEmpty_iff_length_eq_zero, List.isEmpty_iff_length_eq_zero, hl]
  by_cases hb : b.l.isEmpty = true
  · rw [hb] at he
    rw [List.isEmpty_iff.1 he, List.isEmpty_iff.1 hb, trav_cons []]
    simp [push, kids]
  · rw [he]; simp [hb]

open Classical in
/-- Are two items the same? -/
noncomputable def sameB (a b : It) : Bool := decide (a = b)
theorem sameB_true {a b : It} : sameB a b = true ↔ a = b := by simp [sameB]
theorem sameB_itC (a b : It) : sameB a b = decide (itC a b = 0) := by
  rw [Bool.eq_iff_iff, sameB_true, decide_eq_true_iff, itC_zero]
theorem sameB_refl (a : It) : sameB a a = true := sameB_true.2 rfl
theorem sameB_comm (a b : It) : sameB a b = sameB b a := by
  rw [Bool.eq_iff_iff, sameB_true, sameB_true]; exact eq_comm

/-! ### Keys of pairs -/
/-- Every other one, from the first. -/
def evens : List It → List It
  | [] => []
  | [a] => [a]
  | a :: _ :: r => a :: evens r
theorem evens_take (l : List It) (i : Nat) (h : 2 * i < l.length) : evens (l.take (2 * i + 2)) = evens (l.take (2 * i)) ++ [l[2 * i]] := by
  induction i generalizing l with
  | zero =>
    match l, h with
    | [a], _ => rfl
    | a :: b :: r, _ => rfl
  | succ i ih =>
    match l, h with
    | a :: b :: r, h =>
      have := ih r (by simp at h; omega)
      have e : (a :: b :: r)[2 * (i + 1)] = r[2 * i]'(by simp at h; omega) := by simp [show 2 * (i + 1) = 2 * i + 1 + 1 by omega]
      rw [e, show 2 * (i + 1) + 2 = 2 * i + 2 + 1 + 1 by omega, show 2 * (i + 1) = 2 * i + 1 + 1 by omega]
      simp only [List.take_succ_cons, evens, List.cons_append, List.cons.injEq, true_and]
      exact this
theorem length_evens (l : List It) : (evens l).length = (l.length + 1) / 2 := by
  induction l using evens.induct with
  | case1 => rfl
  | case2 a => simp [evens]
  | case3 a b r ih => simp [evens, ih]; omega
theorem getElem_evens (l : List It) (i : Nat) (h : i < (evens l).length) : (evens l)[i] = l[2 * i]'(by rw [length_evens] at h; omega) := by
  induction l using evens.induct generalizing i with
  | case1 => simp [evens] at h
  | case2 a => simp [evens] at h; subst h; rfl
  | case3 a b r ih =>
    cases i with
    | zero => rfl
    | succ i => simp only [evens, List.getElem_cons_succ]; rw [ih]; simp [show 2 * (i + 1) = 2 * i + 1 + 1 by omega]
theorem countL_evens (l : List It) : countL (evens l) ≤ countL l := by
  induction l using evens.induct with
  | case1 => simp [evens]
  | case2 a => simp [evens]
  | case3 a b r ih => simp [evens, countL]; omega
theorem mem_evens {l : List It} {t : It} (h : t ∈ evens l) : t ∈ l := by
  induction l using evens.induct with
  | case1 => simp [evens] at h
  | case2 a => simpa [evens] using h
  | case3 a b r ih =>
    simp only [evens, List.mem_cons] at h
    rcases h with rfl | h
    · simp
    · simp [ih h]
/-- Are two of the keys alike? -/
def twice (l : List It) : Prop := ∃ (i j : Nat) (hi : i < j) (hj : j < (evens l).length), (evens l)[i] = (evens l)[j]
open Classical in
noncomputable def twiceB (l : List It) : Bool := decide (twice l)
theorem twiceB_true {l : List It} : twiceB l = true ↔ twice l := by simp [twiceB]
theorem twiceB_false {l : List It} : twiceB l = false ↔ ¬ twice l := by simp [twiceB]
theorem twice_nodup {l : List It} : twice l ↔ ¬ (evens l).Nodup := by
  unfold twice
  rw [List.nodup_iff_pairwise_ne, List.pairwise_iff_getElem]
  constructor
  · rintro ⟨i, j, hi, hj, he⟩ h
    exact h i j (by omega) hj hi he
  · intro h
    apply Classical.byContradiction
    intro hn
    exact h fun i j hi hj hij he => hn ⟨i, j, hij, hj, he⟩
/-- In a row that rises two that are alike stand side by side. -/
theorem twice_sorted {l d : List It} (hp : d.Perm (evens l)) (hs : ∀ i j (hi : i < j) (hj : j < d.length), 0 ≤ itC (d[j]) (d[i])) : twice l ↔ ∃ i, ∃ h : i + 1 < d.length, d[i] = d[i + 1] := by
  rw [twice_nodup, ← hp.nodup_iff]
  constructor
  · intro h
    apply Classical.byContradiction
    intro hn
    apply h
    rw [List.nodup_iff_pairwise_ne, List.pairwise_iff_getElem]
    intro i j hi hj hij he
    refine hn ⟨i, by omega, ?_⟩
    by_cases e : i + 1 = j
    · subst e; exact he
    · have h1 := hs i (i + 1) (by omega) (by omega)
      have h2 := hs (i + 1) j (by omega) hj
      rw [← he] at h2
      have h3 := itC_cmp.anti d[i] d[i + 1]
      have : itC d[i] d[i + 1] = 0 := by omega
      exact itC_zero.1 this
  · rintro ⟨i, h, he⟩ hn
    rw [List.nodup_iff_pairwise_ne, List.pairwise_iff_getElem] at hn
    exact hn i (i + 1) (by omega) h (by omega) he
end Go.Proofs.Ytmihoeholcaokaa
