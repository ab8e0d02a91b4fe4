/- Package item: walk's iterator. -/
import Derived.Test.YtmihoeholcaokaaKAU
import Derived.Test.YtmihoeholcaokaaKAN
namespace Go.Proofs.Ytmihoeholcaokaa
open Go.RowKit Go.Shelf
attribute [local go_sem] Oper.semAt_some

mutual
theorem It.items_count (t : It) (d : Nat) : ∀ p ∈ t.items d, p.2.count ≤ t.count := by
  cases t with | mk k n s l =>
  intro p hp
  rw [It.items_eq] at hp
  rcases List.mem_cons.1 hp with rfl | hp
  · exact Nat.le_refl _
  · have := itemsL_count l (d + 1) p hp
    rw [It.count]
    omega
theorem itemsL_count (l : List It) (d : Nat) : ∀ p ∈ itemsL l d, p.2.count ≤ countL l := by
  cases l with
  | nil => intro p hp; simp [itemsL] at hp
  | cons t r =>
    intro p hp
    rw [itemsL] at hp
    rw [countL]
    rcases List.mem_append.1 hp with hp | hp
    · have := It.items_count t d p hp; omega
    · have := itemsL_count r d p hp; omega
end

/-- A list that can be read; its blocks are those of S, its items' lists lie below n. -/
def RdI (w : World) (n : Nat) (S : Nat → Prop) (l : List It) (A : Option Addr) : Prop :=
  ∀ i X, l[i]? = some X → ∃ b o A' cap', A = some ⟨b, o, none⟩ ∧ S b ∧ b < w.heap.size ∧ w.cell? ⟨b, o + i * 4, none⟩ = some (.int .i64 X.k) ∧ w.cell? ⟨b, o + i * 4 + 1, none⟩ = some (.int .u64 X.n) ∧ w.cell? ⟨b, o + i * 4 + 2, none⟩ = some (.string X.s) ∧
    w.cell? ⟨b, o + i * 4 + 3, none⟩ = some (.slice A' X.l.length cap') ∧ AtB w n X A' cap'
section
variable {w w' : World} {n : Nat} {S : Nat → Prop} {l : List It} {A : Option Addr} {t : It}
theorem RdI.keep (h : RdI w n S l A) (hn : Below n w w') (hS : ∀ b, S b → b < w.heap.size → w'.heap[b]? = w.heap[b]?) : RdI w' n S l A := fun i X hX => by
  obtain ⟨b, o, A', cap', e, h1, h2, c0, c1, c2, c3, h3⟩ := h i X hX
  have hb := hS b h1 h2
  exact ⟨b, o, A', cap', e, h1, lt_kept hb h2, cell_kept' hb c0, cell_kept' hb c1, cell_kept' hb c2, cell_kept' hb c3, h3.keep hn⟩
theorem RL.rdI {cap : Nat} (h : RL w n l A cap) (hS : ∀ b, b < n → S b) : RdI w n S l A := fun i X hX => by
  obtain ⟨b, o, X', A', cap', e, h1, h2, hX', _, c0, c1, c2, c3, h3⟩ := h.item (take_at hX).2
  rw [hX] at hX'
  cases hX'
  exact ⟨b, o, A', cap', e, hS b h1, h2, c0, c1, c2, c3, h3⟩
theorem RdI.tail {cap : Nat} (h : RdI w n S (t :: l) A) (hc : (t :: l).length ≤ cap) : RdI w n S l (if cap = 1 then A else A.map (·.add (1 * 4))) := fun i X hX => by
  obtain ⟨b, o, A', cap', rfl, h1, h2, c0, c1, c2, c3, h3⟩ := h (i + 1) X (by simpa using hX)
  have hi := (take_at hX).2
  rw [if_neg (by simp only [List.length_cons] at hc; omega)]
  rw [show o + (i + 1) * 4 = o + 4 + i * 4 by omega] at c0 c1 c2 c3
  exact ⟨b, o + 4, A', cap', by rw [Option.map_some, Addr.add_mid], h1, h2, c0, c1, c2, c3, h3⟩
end
/-- What walk tells: how deep, which item, where its items lie. -/
structure Told where
  d : Nat
  t : It
  A : Option Addr
  cap : Nat
abbrev TD (w : World) (n : Nat) (x : It) : Type := { z : Told // AtB w n z.t z.A z.cap ∧ (z.d, z.t) ∈ x.items 1 }
def tdEnc {w : World} {n : Nat} {x : It} (z : TD w n x) : Array Value := #[.int .i64 (z.1.d : Int), vI z.1.t z.1.A z.1.cap]
def tdOf {w : World} {n : Nat} {x : It} (z : TD w n x) : Nat × It := (z.1.d, z.1.t)
/-- A list on walk's stack. -/
def SG (w : World) (n g1 : Nat) : List It → List Value → Prop := fun l c => ∃ A cap, c = [.slice A l.length cap] ∧ l.length ≤ cap ∧ RdI w n (fun b => b < n ∨ b = g1) l A
theorem SG.len {w : World} {n g1 : Nat} : ∀ x c, SG w n g1 x c → c.length = 1 := fun _ _ ⟨_, _, e, _, _⟩ => by rw [e]; rfl
theorem SG.keep {w w' : World} {n g1 : Nat} (hn : Below n w w') (hg : w'.heap[g1]? = w.heap[g1]?) : ∀ x c, SG w n g1 x c → SG w' n g1 x c := fun _ _ ⟨A, cap, e, h1, h2⟩ =>
  ⟨A, cap, e, h1, h2.keep hn fun b hb _ => by
    rcases hb with hb | rfl
    · exact hn.block b hb
    · exact hg⟩
theorem OwnG.stay {α : Type} {E : α → List Value → Prop} {w w' : World} {n B : Nat} {e : TypeId} {s : Nat} {v : Value} {xs : List α} (h : OwnG E w B e s v xs) (hr : Rs n B w w') : OwnG E w' B e s v xs :=
  let ⟨cs, h1, h2⟩ := h
  ⟨cs, oc_keep h1 fun i hi hl => hr.high i hi hl, h2⟩
/-- Where walk stands: st, the lists of its stack, the topmost first; pre, what it has told. -/
structure WK (w W wr : World) (n g1 : Nat) (x : It) (J : List (TD w n x) → World → Prop) (lv : Value) (st : List (List It)) (pre : List (TD w n x)) : Prop where
  own : OwnG (SG wr n g1) wr W.heap.size 37 1 lv st.reverse
  it : pre.map tdOf ++ stk st = x.items 1
  j : J pre wr
  g : ∃ cs, Blk wr g1 39 cs
  gB : W.heap.size ≤ g1
  low : Below n W wr
  cnt : st.length ≤ pre.length + 1
theorem WK.start {w W : World} {n : Nat} {x : It} {A : Option Addr} {cap : Nat} {J : List (TD w n x) → World → Prop} (hn : n ≤ W.heap.size) (h : AtB W n x A cap) (hJ : ∀ s W1 W2, J s W1 → Below W.heap.size W1 W2 → J s W2) (h0 : J [] W) :
    WK w W ((W.alloc (.cells #[.int .i64 x.k, .int .u64 x.n, .string x.s, .slice A x.l.length cap] 39)).alloc (.cells #[.slice (some ⟨W.heap.size, 0, none⟩) 1 1] 37)) n W.heap.size x J (.slice (some ⟨W.heap.size + 1, 0, none⟩) 1 1) [[x]] [] := by
  have S1 := below_alloc W (.cells #[.int .i64 x.k, .int .u64 x.n, .string x.s, .slice A x.l.length cap] 39)
  have b1 := Blk.fresh W 39 #[.int .i64 x.k, .int .u64 x.n, .string x.s, .slice A x.l.length cap]
  have hs1 : (W.alloc (.cells #[.int .i64 x.k, .int .u64 x.n, .string x.s, .slice A x.l.length cap] 39)).heap.size = W.heap.size + 1 := by simp
  obtain ⟨w1, hw1⟩ : ∃ w1, W.alloc (.cells #[.int .i64 x.k, .int .u64 x.n, .string x.s, .slice A x.l.length cap] 39) = w1 := ⟨_, rfl⟩
  rw [hw1] at S1 b1 hs1 ⊢
  have S2 := below_alloc w1 (.cells #[.slice (some ⟨W.heap.size, 0, none⟩) 1 1] 37)
  have S12 : Below W.heap.size W (w1.alloc (.cells #[.slice (some ⟨W.heap.size, 0, none⟩) 1 1] 37)) := S1.trans (S2.mono (by omega))
  have b2 := b1.on S2
  refine ⟨?_, by simp [stk_one], hJ _ _ _ h0 S12, ⟨_, b2⟩, Nat.le_refl _, S12.mono hn, by simp⟩
  have := OwnG.fresh (E := SG (w1.alloc (.cells #[.slice (some ⟨W.heap.size, 0, none⟩) 1 1] 37)) n W.heap.size) (x := [x]) w1 W.heap.size 37 1 #[.slice (some ⟨W.heap.size, 0, none⟩) 1 1]
    ⟨some ⟨W.heap.size, 0, none⟩, 1, rfl, by simp, fun i X hX => ?_⟩ rfl (by omega)
  · rw [hs1] at this
    exact this
  · obtain ⟨rfl, rfl⟩ : i = 0 ∧ x = X := by
      cases i with
      | zero => exact ⟨rfl, by simpa using hX⟩
      | succ i => simp at hX
    refine ⟨W.heap.size, 0, A, cap, rfl, .inr rfl, b2.lt, ?_, ?_, ?_, ?_, h.keep (S12.mono hn)⟩
    · rw [b2.cell]; rfl
    · rw [b2.cell]; rfl
    · rw [b2.cell]; rfl
    · rw [b2.cell]; rfl
/-- The topmost list. -/
theorem WK.top {w W wr : World} {n g1 : Nat} {x : It} {J : List (TD w n x) → World → Prop} {lv : Value} {p : List It} {r : List (List It)} {pre : List (TD w n x)} (h : WK w W wr n g1 x J lv (p :: r) pre) :
    ∃ gs cap Ap capp, lv = .slice (some ⟨gs, 0, none⟩) (r.length + 1) cap ∧ r.length + 1 ≤ cap ∧ gs < wr.heap.size ∧ W.heap.size ≤ gs ∧ gs ≠ g1 ∧ wr.cell? ⟨gs, r.length, none⟩ = some (.slice Ap p.length capp) ∧ wr.frozen? ⟨gs, r.length, none⟩ = false ∧ p.length ≤ capp ∧ RdI wr n (fun b => b < n ∨ b = g1) p Ap ∧
      OwnG (SG wr n g1) wr W.heap.size 37 1 (.slice (some ⟨gs, 0, none⟩) r.length cap) r.reverse := by
  have ho := h.own
  rw [List.reverse_cons] at ho
  obtain ⟨gs, cap, rfl, h1, h2, h3, h4⟩ := ho.head (by simp)
  obtain ⟨c, ⟨Ap, capp, rfl, k1, k2⟩, k3, k4⟩ := ho.top SG.len
  have k5 := k3 0 _ rfl
  rw [List.length_reverse] at k5 k4
  obtain ⟨cs, hg⟩ := h.g
  have hne : gs ≠ g1 := by
    obtain ⟨cs', o, _⟩ := ho
    rcases blk_ne o hg (by decide) with e | e
    · cases e
    · intro e'; exact e (by rw [e']; rfl)
  refine ⟨gs, cap, Ap, capp, by simp, by simpa using h1, h4, h3, hne, by simpa using k5.1, by simpa using k5.2, k1, k2, k4⟩
theorem WK.pop {w W wr : World} {n g1 : Nat} {x : It} {J : List (TD w n x) → World → Prop} {lv lv' : Value} {r : List (List It)} {pre : List (TD w n x)} (h : WK w W wr n g1 x J lv ([] :: r) pre) (ho : OwnG (SG wr n g1) wr W.heap.size 37 1 lv' r.reverse) :
    WK w W wr n g1 x J lv' r pre := ⟨ho, by rw [← stk_pop r]; exact h.it, h.j, h.g, h.gB, h.low, by have := h.cnt; simp only [List.length_cons] at this; omega⟩
theorem AtB.back {w w' : World} {n cap : Nat} {t : It} {A : Option Addr} (h : AtB w' n t A cap) (hb : Below n w w') : AtB w n t A cap :=
  ⟨h.le, h.nil, AtL.keep (fun b hlt _ => (hb.block b hlt).symm) (fun _ h => h) _ _ h.at_⟩
/-- What is told next. -/
theorem WK.next {w W wr : World} {n g1 cap' : Nat} {x t : It} {A' : Option Addr} {J : List (TD w n x) → World → Prop} {lv : Value} {p : List It} {r : List (List It)} {pre : List (TD w n x)} (h : WK w W wr n g1 x J lv ((t :: p) :: r) pre) (hw : Below n w W) (hat : AtB wr n t A' cap') :
    ∃ z : TD w n x, z.1 = ⟨r.length + 1, t, A', cap'⟩ ∧ pre.length < x.count ∧ (pre ++ [z]).map tdOf <+: x.items 1 := by
  have hit := h.it
  rw [stk_step] at hit
  have hm : (r.length + 1, t) ∈ x.items 1 := by rw [← hit]; simp
  have hlen := congrArg List.length hit
  rw [List.length_append, List.length_map, It.length_items, List.length_cons] at hlen
  refine ⟨⟨⟨r.length + 1, t, A', cap'⟩, hat.back (hw.trans h.low), hm⟩, rfl, by omega, ⟨stk (t.l :: p :: r), ?_⟩⟩
  refine Eq.trans ?_ hit
  simp [tdOf]
/-- A round has gone on: the item is taken off its list, its items' list is laid on top. -/
theorem WK.step {w W wr W3 : World} {n g1 gs cap capp b o cap' : Nat} {x t : It} {Ap Aq A' : Option Addr} {J : List (TD w n x) → World → Prop} {p : List It} {r : List (List It)} {pre : List (TD w n x)} {z : TD w n x}
    (h : WK w W wr n g1 x J (.slice (some ⟨gs, 0, none⟩) (r.length + 1) cap) ((t :: p) :: r) pre) (hJ : ∀ s W1 W2, J s W1 → Below W.heap.size W1 W2 → J s W2) (hn : n ≤ W.heap.size) (hz : tdOf z = (r.length + 1, t)) (hj : J (pre ++ [z]) W3) (hr : Rs n W.heap.size wr W3)
    (hgB : W.heap.size ≤ gs) (hgl : gs < wr.heap.size) (hgne : gs ≠ g1) (hcl : (t :: p).length ≤ capp) (hc : wr.cell? ⟨gs, r.length, none⟩ = some (.slice Ap (t :: p).length capp)) (hf : wr.frozen? ⟨gs, r.length, none⟩ = false)
    (hb : b < n ∨ b = g1) (c3 : wr.cell? ⟨b, o + 3, none⟩ = some (.slice A' t.l.length cap')) (hat : AtB wr n t A' cap') (hq : (if capp = 1 then Ap else Ap.map (·.add (1 * 4))) = Aq) (hroom : r.length + 2 ≤ 1099511627776) (hrd : RdI wr n (fun b => b < n ∨ b = g1) (t :: p) Ap) :
    ∃ w4 w5 lv' w6, W3.cell? ⟨gs, r.length, none⟩ = some (.slice Ap (t :: p).length capp) ∧ W3.frozen? ⟨gs, r.length, none⟩ = false ∧ W3.setCell ⟨gs, r.length, none⟩ (.slice Aq p.length (capp - 1)) = w4 ∧ w4.cell? ⟨b, o + 3, none⟩ = some (.slice A' t.l.length cap') ∧
      w4.alloc (.cells #[.slice A' t.l.length cap'] 37) = w5 ∧ (Builtin.append_ #[89, 89] 89 #[.slice (some ⟨gs, 0, none⟩) (r.length + 1) cap, .slice (some ⟨w4.heap.size, 0, none⟩) 1 1]).run Try.prog w5 = .ok lv' w6 ∧
      WK w W w6 n g1 x J lv' (t.l :: p :: r) (pre ++ [z]) := by
  obtain ⟨cs1, hg1⟩ := h.g
  have hb3 := hr.high gs hgB hgl
  have hgk := hr.high g1 h.gB hg1.lt
  have hsz := hr.low.size
  have hbk : W3.heap[b]? = wr.heap[b]? := by
    rcases hb with hb | rfl
    · exact hr.low.block b hb
    · exact hgk
  have hg3 : Blk W3 g1 39 cs1 := hgk.trans hg1
  have own3 : OwnG (SG W3 n g1) W3 W.heap.size 37 1 (.slice (some ⟨gs, 0, none⟩) (r.length + 1) cap) (r.reverse ++ [t :: p]) := by
    have := (h.own.stay hr).imp (SG.keep hr.low hgk)
    rwa [List.reverse_cons] at this
  have hbne : gs ≠ b := by rcases hb with hb | rfl <;> omega
  have rd3 : RdI W3 n (fun b => b < n ∨ b = g1) (t :: p) Ap := hrd.keep hr.low fun b hb _ => by
    rcases hb with hb | rfl
    · exact hr.low.block b hb
    · exact hgk
  have low4 : Below n W3 (W3.setCell ⟨gs, r.length, none⟩ (.slice Aq p.length (capp - 1))) := (Below.refl n W3).setCell (p := ⟨gs, r.length, none⟩) (by show n ≤ gs; omega) _
  have lowB4 : Below W.heap.size W3 (W3.setCell ⟨gs, r.length, none⟩ (.slice Aq p.length (capp - 1))) := (Below.refl _ W3).setCell (p := ⟨gs, r.length, none⟩) hgB _
  have gk4 : (W3.setCell ⟨gs, r.length, none⟩ (.slice Aq p.length (capp - 1))).heap[g1]? = W3.heap[g1]? := Below.heap_setCell W3 ⟨gs, r.length, none⟩ _ g1 (by show g1 ≠ gs; omega)
  have own4 : OwnG (SG (W3.setCell ⟨gs, r.length, none⟩ (.slice Aq p.length (capp - 1))) n g1) (W3.setCell ⟨gs, r.length, none⟩ (.slice Aq p.length (capp - 1))) W.heap.size 37 1 (.slice (some ⟨gs, 0, none⟩) (r.length + 1) cap) (r.reverse ++ [p]) := by
    have hE := (own3.setTop (x' := p) SG.len (u := .slice Aq p.length (capp - 1)) ⟨Aq, capp - 1, rfl, by simp only [List.length_cons] at hcl; omega, by rw [← hq]; exact rd3.tail hcl⟩).imp (SG.keep (w := W3) low4 gk4)
    rwa [List.length_reverse] at hE
  have hs4 : (W3.setCell ⟨gs, r.length, none⟩ (.slice Aq p.length (capp - 1))).heap.size = W3.heap.size := by simp [World.setCell]
  have c34 : (W3.setCell ⟨gs, r.length, none⟩ (.slice Aq p.length (capp - 1))).cell? ⟨b, o + 3, none⟩ = some (.slice A' t.l.length cap') := by
    refine cell_kept' (w := W3) (Below.heap_setCell W3 ⟨gs, r.length, none⟩ _ b (by show b ≠ gs; omega)) ?_
    exact cell_kept' hbk c3
  have at4 : AtB (W3.setCell ⟨gs, r.length, none⟩ (.slice Aq p.length (capp - 1))) n t A' cap' := (hat.keep hr.low).keep low4
  obtain ⟨w4, hw4⟩ : ∃ w4, W3.setCell ⟨gs, r.length, none⟩ (.slice Aq p.length (capp - 1)) = w4 := ⟨_, rfl⟩
  rw [hw4] at own4 low4 lowB4 gk4 hs4 c34 at4 ⊢
  have S5 := below_alloc w4 (.cells #[.slice A' t.l.length cap'] 37)
  have b5 := Blk.fresh w4 37 #[.slice A' t.l.length cap']
  have hs5 := S5.size
  generalize hw5 : w4.alloc (.cells #[.slice A' t.l.length cap'] 37) = w5 at *
  have gk5 : w5.heap[g1]? = w4.heap[g1]? := S5.block g1 (by have := hg3.lt; omega)
  have own5 : OwnG (SG w5 n g1) w5 W.heap.size 37 1 (.slice (some ⟨gs, 0, none⟩) (r.length + 1) cap) (r.reverse ++ [p]) := (own4.on S5).imp (SG.keep (S5.mono (by omega)) gk5)
  have at5 : AtB w5 n t A' cap' := at4.keep (S5.mono (by omega))
  obtain ⟨lv', w6, hrun, ho6, hb6, hg6, _⟩ := own5.push (P := Try.prog) (t := 89) (ty := 89) (bytes := 24) (x := t.l) (c := [.slice A' t.l.length cap']) (a := ⟨w4.heap.size, 0, none⟩) (k := 1) (by kernel_rfl) infoList rfl (by decide) (by decide)
    ⟨A', cap', rfl, at5.le, at5.rl.rdI fun b hb => .inl hb⟩ rfl
    (fun j u hj => by
      rw [Addr.add_mid, Nat.zero_add, b5.cell]
      simpa using hj)
    (fun y hy => by
      simp only [List.mem_cons, List.not_mem_nil, or_false] at hy
      rw [hy]; rfl) (by simp; omega) (by omega)
  have gk6 : w6.heap[g1]? = w5.heap[g1]? := hg6.block g1 (by have := hg3.lt; omega) (by simp only [Value.ownBlock]; intro e; injection e with e; exact hgne e.symm)
  have lowB6 : Below W.heap.size W3 w6 := lowB4.trans ((S5.mono (by omega)).trans hb6)
  refine ⟨w4, w5, lv', w6, cell_kept' hb3 hc, (World.frozen?_of_block (a := ⟨gs, r.length, none⟩) hb3).trans hf, rfl, c34, hw5, hrun, ⟨?_, ?_, hJ _ _ _ hj lowB6, ⟨cs1, gk6.trans (gk5.trans (gk4.trans hg3))⟩, h.gB, h.low.trans (hr.low.trans (lowB6.mono hn)), ?_⟩⟩
  · rw [List.reverse_cons, List.reverse_cons]
    exact ho6.imp (SG.keep (hb6.mono hn) gk6)
  · refine Eq.trans ?_ h.it
    rw [stk_step, List.map_append, List.append_assoc, List.map_cons, hz]
    rfl
  · have := h.cnt
    simp only [List.length_cons, List.length_append, List.length_nil] at this ⊢
    omega

set_option maxRecDepth 100000 in
set_option maxHeartbeats 4000000 in
theorem walks_in (x : It) (A : Option Addr) (cap n Bx l : Nat) (w W : World) (hc : x.count ≤ 1099511627775) (hn : n ≤ W.heap.size) (hb : Blk W Bx 39 #[.int .i64 x.k, .int .u64 x.n, .string x.s, .slice A x.l.length cap]) (h : AtB w n x A cap) (hw : Below n w W)
    (J Jx : List (TD w n x) → World → Prop) (hJ : ∀ s W1 W2, J s W1 → Below W.heap.size W1 W2 → J s W2)
    (hY : ∀ pre z W1, J pre W1 → (pre ++ [z]).map tdOf <+: x.items 1 → W.heap.size ≤ W1.heap.size → pre.length < x.count → YieldAt Fence.wide 0 Try.prog l (tdEnc z) W1 fun e W' =>
      (e = .returned (.bool true) ∧ J (pre ++ [z]) W' ∧ Rs n W.heap.size W1 W') ∨ (e = .returned (.bool false) ∧ Jx (pre ++ [z]) W'))
    (h0 : J [] W) :
    CallsIn Fence.wide 0 Try.prog 43 #[.func (.yield l) #[] #[], .pointer (some ⟨Bx, 0, none⟩)] W fun e W' => (∃ v, e = .returned v) ∧ ((∃ xs : List (TD w n x), xs.map tdOf = x.items 1 ∧ J xs W') ∨ (∃ pre : List (TD w n x), pre.map tdOf <+: x.items 1 ∧ Jx pre W')) := by
  obtain ⟨p0, p1, p2, p3, -⟩ := iblk hb
  have HC := Lib.hid (fun _ : Unit => hc)
  have HH := Lib.hid h
  have HW := Lib.hid hw
  have HN := Lib.hid hn
  have HJ := Lib.hid hJ
  have HY := Lib.hid hY
  have H0 := Lib.hid h0
  clear hb h hw hn hJ hY h0 hc
  refine callsIn_of_wp Try.func43 rfl trivial ?_ rfl
  simp only [Try.ntmps43, List.size_toArray, List.length_cons, List.length_nil, Nat.reduceAdd, Nat.reduceSub, Array.replicate_succ, Array.replicate_zero, List.push_toArray, List.append_toArray, List.nil_append, List.cons_append]
  gi_wp2
  have HK := Lib.hid (WK.start HN.out (HH.out.keep HW.out) HJ.out H0.out)
  have hsz : W.heap.size ≤ ((W.alloc (.cells #[.int .i64 x.k, .int .u64 x.n, .string x.s, .slice A x.l.length cap] 39)).alloc (.cells #[.slice (some ⟨W.heap.size, 0, none⟩) 1 1] 37)).heap.size := by simp; omega
  have HSZ := Lib.hid hsz
  clear hsz
  generalize (W.alloc (.cells #[.int .i64 x.k, .int .u64 x.n, .string x.s, .slice A x.l.length cap] 39)).alloc (.cells #[.slice (some ⟨W.heap.size, 0, none⟩) 1 1] 37) = w2 at *
  gi_loopg [3, 4] (stkM [[x]]) (fun gk lv dv wr => ∃ (st : List (List It)) (pre : List (TD w n x)), RowKit.Hid (WK w W wr n W.heap.size x J lv st pre) ∧ dv = .int .i64 (st.length : Int) ∧ RowKit.Hid (stkM st = gk) ∧ RowKit.Hid (W.heap.size ≤ wr.heap.size))
  case atStart => exact ⟨[[x]], [], HK, rfl, Lib.hid rfl, HSZ⟩
  case round =>
    clear HK HSZ p0 p1 p2 p3
    obtain ⟨st, pre, HK, rfl, HZ, HSZ⟩ := hrel
    cases st with
    | nil =>
      obtain ⟨Av, cv, rfl, -, -, -, -⟩ := HK.out.own.form
      gi_wp2
      go_end0
      refine ⟨⟨_, rfl⟩, .inl ⟨pre, ?_, HK.out.j⟩⟩
      have := HK.out.it
      simpa [stk] using this
    | cons p r =>
      obtain ⟨gs, cap0, Ap, capp, rfl, hle, hgl, hgB, hgne, hc, hf, hpl, hrd, ho⟩ := HK.out.top
      have hcnt := HK.out.cnt
      have hlt : pre.length + (stk (p :: r)).length = x.count := by
        have := congrArg List.length HK.out.it
        rw [List.length_append, List.length_map, It.length_items] at this
        exact this
      obtain ⟨m, hm⟩ : ∃ m, r.length = m := ⟨_, rfl⟩
      have hmb : (m : Int) < 1099511627776 := by
        have h1 := HC.out ()
        simp only [List.length_cons] at hcnt
        omega
      rw [hm] at hle hc hf ho
      simp only [List.length_cons, hm]
      have HCNT := Lib.hid (fun _ : Unit => And.intro hcnt hlt)
      have HM := Lib.hid hm
      have HRD := Lib.hid hrd
      have HO := Lib.hid ho
      have HPL := Lib.hid hpl
      clear hcnt hlt hrd ho hm hpl
      have hsub : (m : Int) + 1 - 1 = m := by omega
      cases p with
      | nil =>
        have hless := fun W => run_less (P := Try.prog) (t := 89) (elem := 37) (by kernel_rfl) sizeList W gs (m + 1) cap0 m (m : Int) rfl (by omega)
        gi_wp2
        gi_roundg (stkM r)
        case rel => exact ⟨r, pre, Lib.hid (HK.out.pop (lv' := .slice (some ⟨gs, 0, none⟩) m cap0) HO.out), by rw [HM.out], Lib.hid rfl, HSZ⟩
        case measure => rw [← HZ.out]; exact stkM_pop r
      | cons t p =>
        obtain ⟨b, o, A', cap', rfl, hS, hbl, c0, c1, c2, c3, hat⟩ := HRD.out 0 t rfl
        simp only [Nat.zero_mul, Nat.add_zero] at c0 c1 c2 c3
        obtain ⟨z, hz, hpre, hpx⟩ := HK.out.next HW.out hat
        obtain ⟨fn, tmps, assign, body, hy, hR⟩ := HY.out pre z wr HK.out.j hpx HSZ.out hpre
        have hze : tdOf z = (r.length + 1, t) := by simp only [tdOf, hz]
        have hd1 : ((m + 1 : Nat) : Int) = (m : Int) + 1 := by omega
        simp only [tdEnc, hz, HM.out, vI, hd1] at hy
        obtain ⟨q, hq⟩ : ∃ q, p.length = q := ⟨_, rfl⟩
        have hcl : (t :: p).length = q + 1 := by rw [← hq]; rfl
        rw [hcl] at hc
        have hqb : ((q : Int) + 1 == 0) = false := by simp; omega
        have HPRE := Lib.hid (fun _ : Unit => hpre)
        have HQ := Lib.hid hq
        have HZE := Lib.hid hze
        have HPX := Lib.hid hpx
        have HR := Lib.hid hR
        have HAT := Lib.hid hat
        have HS := Lib.hid hS
        clear hz hpre hze hpx hR hat hq hcl hS hd1
        obtain ⟨Aq, hAq⟩ : ∃ Aq, (if capp = 1 then (some ⟨b, o, none⟩ : Option Addr) else (some ⟨b, o, none⟩ : Option Addr).map (·.add (1 * 4))) = Aq := ⟨_, rfl⟩
        have hcut := fun W => run_cutK (P := Try.prog) (t := 37) (elem := 39) (by kernel_rfl) sizeItem W (some ⟨b, o, none⟩) (q + 1) capp 1 (1 : Int) rfl (by omega)
        simp only [hAq, Nat.add_sub_cancel] at hcut
        have HSTEP := Lib.hid (fun W3 hj hr => by
          have := HK.out.step (W3 := W3) HJ.out HN.out HZE.out hj hr hgB hgl hgne HPL.out (by rw [HM.out, List.length_cons, HQ.out]; exact hc) (by rw [HM.out]; exact hf) HS.out c3 HAT.out hAq (by have h1 := (HCNT.out ()).1; have h2 := HC.out (); have h3 := HPRE.out (); simp only [List.length_cons] at h1; omega) HRD.out
          rw [HM.out, List.length_cons, HQ.out] at this
          exact this)
        clear hAq
        gi_wp2
        refine ⟨rfl, HR.out.mono ?_⟩
        rintro e W3 (⟨rfl, hJ3, hk3⟩ | ⟨rfl, hJx3⟩)
        · obtain ⟨w4, w5, lv', w6, hc3, hf3, hw4, hc4, hw5, hrun, hWK⟩ := HSTEP.out W3 hJ3 hk3
          obtain ⟨A2, cap2, rfl, -, -, -, -⟩ := hWK.own.form
          have hl2 : (t.l :: p :: r).reverse.length = m + 2 := by rw [List.length_reverse, List.length_cons, List.length_cons, HM.out]
          rw [hl2] at hrun hWK
          have HRUN := Lib.hid hrun
          have HWK := Lib.hid hWK
          have HK3 := Lib.hid hk3
          clear hrun hWK hk3 hJ3 hl2
          gi_wp2_with ((with_reducible refine is_appendIn 89 rfl ?_); (with_reducible refine wpListIn_append_run rfl rfl HRUN.out ?_ ?_ ?_); (· rfl); (· rfl))
          gi_roundg (stkM (t.l :: p :: r))
          case rel =>
            refine ⟨t.l :: p :: r, pre ++ [z], HWK, by simp [HM.out]; omega, Lib.hid rfl, Lib.hid ?_⟩
            exact HWK.out.low.size
          case measure => rw [← HZ.out]; exact stkM_step t p r
        · gi_wp2
          refine bodyPost_ret (results_none rfl _ _ _) rfl ?_
          exact ⟨⟨_, rfl⟩, .inr ⟨pre ++ [z], HPX.out, hJx3⟩⟩
end Go.Proofs.Ytmihoeholcaokaa
