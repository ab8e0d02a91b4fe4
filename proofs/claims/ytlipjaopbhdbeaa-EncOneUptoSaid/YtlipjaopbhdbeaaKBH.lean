/- Items by value on slices of the call's own, their lists in the blocks of a set S. -/
import Derived.Test.YtlipjaopbhdbeaaKBE
import Derived.Test.YtlipjaopbhdbeaaKBF
import Derived.Test.YtlipjaopbhdbeaaKBG
namespace Go.Proofs.Ytlipjaopbhdbeaa
open Go.RowKit Go.Sort

/-- An item's items lie in memory, all in blocks of S. -/
structure AtS (w : World) (S : Nat → Prop) (t : It) (A : Option Addr) (cap : Nat) : Prop where
  le : t.l.length ≤ cap
  nil : A = none → cap = 0
  at_ : AtL w S t.l A
def LayS (w : World) (S : Nat → Prop) : List It → List Value → Prop
  | [], cs => cs = []
  | t :: r, cs => ∃ A cap cs', cs = ic t A cap ++ cs' ∧ AtS w S t A cap ∧ LayS w S r cs'
def OwnS (w : World) (S : Nat → Prop) (B : Nat) (v : Value) (its : List It) : Prop := ∃ cs, w.ownsRow B 25 4 v its.length cs ∧ LayS w S its cs
section
variable {w w' : World} {S T : Nat → Prop} {n B g cap : Nat} {t : It} {A : Option Addr} {v : Value} {its xs : List It} {cs cs' : List Value}
theorem AtS.toV (h : AtS w S t A cap) : AtV w t A cap := ⟨h.le, h.nil, h.at_.more fun _ _ => trivial⟩
theorem AtS.toB (h : AtS w S t A cap) (hS : ∀ b, S b → b < n) : AtB w n t A cap := ⟨h.le, h.nil, h.at_.more hS⟩
theorem AtS.keep (h : AtS w S t A cap) (hS : ∀ b, S b → b < n) (hb : Below n w w') : AtS w' S t A cap := ⟨h.le, h.nil, AtL.keep (fun b hs _ => hb.block b (hS b hs)) (fun _ h => h) _ _ h.at_⟩
theorem AtS.more (h : AtS w S t A cap) (hS : ∀ b, S b → T b) : AtS w T t A cap := ⟨h.le, h.nil, h.at_.more hS⟩
theorem AtB.toS (h : AtB w n t A cap) : AtS w (· < n) t A cap := ⟨h.le, h.nil, h.at_⟩
/-- Item number i: its cells, and what stands behind them. -/
theorem AtS.item (h : AtS w S t A cap) {i : Nat} (hi : i < t.l.length) : ∃ b o X A' cap', A = some ⟨b, o, none⟩ ∧ S b ∧ b < w.heap.size ∧ t.l[i]? = some X ∧ X ∈ t.l ∧
    w.cell? ⟨b, o + i * 4, none⟩ = some (.int .i64 X.k) ∧ w.cell? ⟨b, o + i * 4 + 1, none⟩ = some (.int .u64 X.n) ∧ w.cell? ⟨b, o + i * 4 + 2, none⟩ = some (.string X.s) ∧
    w.cell? ⟨b, o + i * 4 + 3, none⟩ = some (.slice A' X.l.length cap') ∧ AtS w S X A' cap' := by
  obtain ⟨b, o, rfl, hn, hb, h1, _⟩ := h.at_.get hi
  rw [Nat.mul_comm 4 i] at h1
  obtain ⟨A', cap', c0, c1, c2, c3, g1, g2, g3⟩ := h1.parts
  exact ⟨b, o, t.l[i], A', cap', rfl, hn, hb, List.getElem?_eq_getElem hi, List.getElem_mem hi, c0, c1, c2, c3, g1, g2, g3⟩
theorem LayS.one (h : AtS w S t A cap) : LayS w S [t] (ic t A cap) := ⟨A, cap, [], by simp, h, rfl⟩
theorem LayS.append : ∀ {its : List It} {cs : List Value}, LayS w S its cs → LayS w S xs cs' → LayS w S (its ++ xs) (cs ++ cs')
  | [], cs, h, k => by cases (show cs = [] from h); exact k
  | t :: r, cs, ⟨A, cap, c, e, h1, h2⟩, k => ⟨A, cap, c ++ cs', by rw [e, List.append_assoc], h1, LayS.append h2 k⟩
theorem LayS.keep (hS : ∀ b, S b → b < n) (hb : Below n w w') : ∀ {its : List It} {cs : List Value}, LayS w S its cs → LayS w' S its cs
  | [], _, h => h
  | _ :: _, _, ⟨A, cap, c, e, h1, h2⟩ => ⟨A, cap, c, e, h1.keep hS hb, LayS.keep hS hb h2⟩
theorem LayS.more (hS : ∀ b, S b → T b) : ∀ {its : List It} {cs : List Value}, LayS w S its cs → LayS w T its cs
  | [], _, h => h
  | _ :: _, _, ⟨A, cap, c, e, h1, h2⟩ => ⟨A, cap, c, e, h1.more hS, LayS.more hS h2⟩
theorem LayS.one_cell : ∀ {its : List It} {cs : List Value}, LayS w S its cs → ∀ u ∈ cs, u.oneCell' = true
  | [], cs, h, u, hu => by cases (show cs = [] from h); cases hu
  | t :: r, cs, ⟨A, cap, c, e, h1, h2⟩, u, hu => by
    subst e
    rcases List.mem_append.1 hu with h | h
    · exact ic_one _ _ _ u h
    · exact h2.one_cell u h
theorem LayS.length : ∀ {its : List It} {cs : List Value}, LayS w S its cs → cs.length = its.length * 4
  | [], cs, h => by cases (show cs = [] from h); rfl
  | t :: r, cs, ⟨A, cap, c, e, h1, h2⟩ => by
    subst e
    have := h2.length
    simp only [List.length_append, List.length_cons, ic, List.length_nil, this]
    omega
theorem LayS.get : ∀ {its : List It} {cs : List Value}, LayS w S its cs → ∀ {i : Nat} {X : It}, its[i]? = some X → ∃ A cap, cs[i * 4]? = some (.int .i64 X.k) ∧ cs[i * 4 + 1]? = some (.int .u64 X.n) ∧ cs[i * 4 + 2]? = some (.string X.s) ∧ cs[i * 4 + 3]? = some (.slice A X.l.length cap) ∧ AtS w S X A cap
  | [], _, _, i, X, hX => by cases hX
  | t :: r, cs, ⟨A, cap, c, e, h1, h2⟩, i, X, hX => by
    subst e
    cases i with
    | zero =>
      obtain rfl : t = X := by simpa using hX
      exact ⟨A, cap, rfl, rfl, rfl, rfl, h1⟩
    | succ i =>
      obtain ⟨A', cap', c0, c1, c2, c3, h⟩ := h2.get (i := i) (X := X) (by simpa using hX)
      refine ⟨A', cap', ?_, ?_, ?_, ?_, h⟩ <;> rw [show (i + 1) * 4 = i * 4 + 4 by omega]
      · exact c0
      · exact c1
      · exact c2
      · exact c3
theorem OwnI.toS (h : OwnI w n B v its) : OwnS w (· < n) B v its := by
  obtain ⟨cs, h1, h2⟩ := h
  refine ⟨cs, h1, ?_⟩
  have : ∀ {its : List It} {cs : List Value}, Lay w n its cs → LayS w (· < n) its cs := by
    intro its
    induction its with
    | nil => exact fun h => h
    | cons t r ih => rintro cs ⟨A, cap, c, e, k1, k2⟩; exact ⟨A, cap, c, e, k1.toS, ih k2⟩
  exact this h2
theorem OwnS.more (h : OwnS w S B v its) (hS : ∀ b, S b → T b) : OwnS w T B v its :=
  let ⟨cs, h1, h2⟩ := h
  ⟨cs, h1, h2.more hS⟩
theorem OwnS.keepB (h : OwnS w S B v its) (hb : Below w.heap.size w w') (hS : ∀ b, S b → b < w.heap.size) : OwnS w' S B v its :=
  let ⟨cs, h1, h2⟩ := h
  ⟨cs, oc_on h1 hb, h2.keep hS hb⟩
theorem OwnS.item (h : OwnS w S B (.slice (some ⟨g, 0, none⟩) its.length cap) its) {i : Nat} (hi : i < its.length) : ∃ X A' cap', its[i]? = some X ∧ X ∈ its ∧
    w.cell? ⟨g, i * 4, none⟩ = some (.int .i64 X.k) ∧ w.cell? ⟨g, i * 4 + 1, none⟩ = some (.int .u64 X.n) ∧ w.cell? ⟨g, i * 4 + 2, none⟩ = some (.string X.s) ∧
    w.cell? ⟨g, i * 4 + 3, none⟩ = some (.slice A' X.l.length cap') ∧ AtS w S X A' cap' := by
  obtain ⟨cs, h1, h2⟩ := h
  have hX := List.getElem?_eq_getElem hi
  obtain ⟨A, c, c0, c1, c2, c3, h3⟩ := h2.get hX
  exact ⟨its[i], A, c, hX, List.getElem_mem hi, (oc_cell h1 (by omega)).1.trans c0, (oc_cell h1 (by omega)).1.trans c1, (oc_cell h1 (by omega)).1.trans c2, (oc_cell h1 (by omega)).1.trans c3, h3⟩
/-- Items of the call's own, as those that come in stand. -/
theorem OwnS.atL (h : OwnS w S B (.slice (some ⟨g, 0, none⟩) its.length cap) its) (hg : g < w.heap.size) (hT : T g) (hS : ∀ b, S b → T b) : AtL w T its (some ⟨g, 0, none⟩) := by
  refine AtL.of_items hT hg its 0 fun i X hX => ?_
  have hi : i < its.length := by
    rcases Nat.lt_or_ge i its.length with h | h
    · exact h
    · rw [List.getElem?_eq_none h] at hX; cases hX
  obtain ⟨Y, A', c', hY, _, c0, c1, c2, c3, hat⟩ := h.item hi
  rw [hX] at hY
  cases hY
  simp only [Nat.zero_add]
  exact At1.mk A' c' c0 c1 c2 c3 hat.le hat.nil (hat.at_.more hS)
/-- Handed back. -/
theorem OwnS.hand (h : OwnS w S B v its) (hT : ∀ b, B ≤ b → T b) (hS : ∀ b, S b → T b) : ∃ A c, v = .slice A its.length c ∧ its.length ≤ c ∧ (A = none → c = 0) ∧ AtL w T its A := by
  obtain ⟨A, c, rfl, h1, _, h2, h3⟩ := oc_form h.choose_spec.1
  refine ⟨A, c, rfl, h1, h2, ?_⟩
  cases A with
  | none =>
    have : its = [] := List.length_eq_zero_iff.1 (by have := h2 rfl; omega)
    subst this
    exact AtL.nil _
  | some p =>
    obtain ⟨g, rfl, hB, hg⟩ := h3 p rfl
    exact h.atL hg (hT g hB) hS
end
/-- Memory for items, none there yet. -/
theorem make_itemsS (S : Nat → Prop) (m : Nat) (W : World) (hm : m ≤ 1099511627776) : ∃ w', (Instr.makeSlice 23 (.int .i64 0) (.int .i64 (m : Int))).run Try.prog W = .ok (.slice (some ⟨W.heap.size, 0, none⟩) 0 m) w' ∧ OwnS w' S W.heap.size (.slice (some ⟨W.heap.size, 0, none⟩) 0 m) [] ∧ Below W.heap.size W w' := by
  obtain ⟨i0, hi, hz0, hz1, hz2⟩ := info_parts infoItem
  obtain ⟨w', r1, r2, r3⟩ := run_make_own (P := Try.prog) W W.heap.size 23 25 i0 _ 4 (by kernel_rfl) hi hz0 hz1 .i64 .i64 m (by rw [hz2]; omega) (by unfold maxLen; omega) (Nat.le_refl _)
  exact ⟨w', r1, ⟨[], r2, rfl⟩, (Below.refl _ _).grown r3 (Nat.le_refl _) (fun k h => by cases h)⟩
/-- append of items to a slice of the call's own. -/
theorem run_append_itemsS {w : World} {S : Nat → Prop} {n B : Nat} {ty : TypeId} {v v2 : Value} {its xs : List It} {B2 : Nat} (hown : OwnS w S B v its) (h2 : OwnS w S B2 v2 xs) (hx : 0 < xs.length) (hsz : its.length + xs.length ≤ 1099511627776) (hB : B ≤ w.heap.size) (hS : ∀ b, S b → b < n) (hn : n ≤ B) :
    ∃ v' w', (Builtin.append_ #[23, 23] ty #[v, v2]).run Try.prog w = .ok v' w' ∧ OwnS w' S B v' (its ++ xs) ∧ Below B w w' ∧ w.grownBy w' v.ownBlock := by
  obtain ⟨cs, o1, l1⟩ := hown
  obtain ⟨cs2, o2, l2⟩ := h2
  obtain ⟨g2, cap2, rfl, _, _, _, _⟩ := oc_head o2 hx
  obtain ⟨v', w', r1, r2, r3, r4, _⟩ := oc_append (P := Try.prog) (t := 23) (ty := ty) (e := 25) (s := 4) (bytes := 56) (m := xs.length) (c := cap2) (news := cs2) (a := ⟨g2, 0, none⟩) (by kernel_rfl) infoItem rfl (by decide) (by decide) o1 l2.length
    (fun j u hj => by
      have hj' : j < xs.length * 4 := by
        rw [← l2.length]
        rcases Nat.lt_or_ge j cs2.length with h | h
        · exact h
        · rw [List.getElem?_eq_none h] at hj; cases hj
      rw [Addr.add_mid, Nat.zero_add]
      exact (oc_cell o2 hj').1.trans hj) l2.one_cell hsz hB
  exact ⟨v', w', r1, ⟨cs ++ cs2, by rw [List.length_append]; exact r2, (l1.append l2).keep hS (r3.mono hn)⟩, r3, r4⟩
theorem own_two {w : World} {S : Nat → Prop} {t u : It} {A C : Option Addr} {cap ccap : Nat} (h : AtS w S t A cap) (k : AtS w S u C ccap) (hS : ∀ b, S b → b < w.heap.size) :
    OwnS (w.alloc (.cells #[.int .i64 t.k, .int .u64 t.n, .string t.s, .slice A t.l.length cap, .int .i64 u.k, .int .u64 u.n, .string u.s, .slice C u.l.length ccap] 25)) S w.heap.size (.slice (some ⟨w.heap.size, 0, none⟩) 2 2) [t, u] :=
  ⟨_, oc_new w w.heap.size 25 4 2 #[.int .i64 t.k, .int .u64 t.n, .string t.s, .slice A t.l.length cap, .int .i64 u.k, .int .u64 u.n, .string u.s, .slice C u.l.length ccap] rfl (Nat.le_refl _) (by unfold maxLen; omega), (LayS.one (h.keep hS (below_alloc w _))).append (LayS.one (k.keep hS (below_alloc w _)))⟩
theorem two_push {wr : World} {S : Nat → Prop} {n B c d : Nat} {v : Value} {ks : List It} {X Y : It} {A C : Option Addr} (hown : OwnS wr S B v ks) (hX : AtS wr S X A c) (hY : AtS wr S Y C d) (hB : B ≤ wr.heap.size) (hS : ∀ b, S b → b < n) (hn : n ≤ B) (hsz : ks.length + 2 ≤ 1099511627776) :
    ∃ w2 v' w3, wr.alloc (.cells #[.int .i64 X.k, .int .u64 X.n, .string X.s, .slice A X.l.length c, .int .i64 Y.k, .int .u64 Y.n, .string Y.s, .slice C Y.l.length d] 25) = w2 ∧ (Builtin.append_ #[23, 23] 23 #[v, .slice (some ⟨wr.heap.size, 0, none⟩) 2 2]).run Try.prog w2 = .ok v' w3 ∧
      OwnS w3 S B v' (ks ++ [X, Y]) ∧ Below B wr w3 := by
  have hS' : ∀ b, S b → b < wr.heap.size := fun b hb => Nat.lt_of_lt_of_le (hS b hb) (Nat.le_trans hn hB)
  have S0 := below_alloc wr (.cells #[.int .i64 X.k, .int .u64 X.n, .string X.s, .slice A X.l.length c, .int .i64 Y.k, .int .u64 Y.n, .string Y.s, .slice C Y.l.length d] 25)
  have o2 := own_two hX hY hS'
  have o1 := hown.keepB S0 hS'
  obtain ⟨v', w3, r1, r2, r3, _⟩ := run_append_itemsS (ty := 23) o1 o2 (by simp) (by simpa using hsz) (Nat.le_trans hB S0.size) hS hn
  exact ⟨_, v', w3, rfl, r1, r2, (S0.mono hB).trans r3⟩
end Go.Proofs.Ytlipjaopbhdbeaa

/- Package enc: what rising's second half meets. -/
namespace Go.Proofs.Ytlipjaopbhdbeaa
open Go.RowKit Go.Sort

theorem RS.ck {w0 wr : World} {g : Nat} {A : Option Addr} {cap : Nat} {l : List It} {n : Nat} (h : RS w0 wr g A cap l n n) (hn : l.length / 2 = n) (hB : AtB w0 g (.mk 0 0 ⟨#[]⟩ l) A cap) : Ck wr (g + 3) (g + 2) g (g + 1) A cap l := by
  obtain ⟨kv, h1, h2, h3⟩ := h.kb
  have hB' := hB.keep h.low
  refine ⟨by rw [hn]; exact h.bk, h.bi, by omega, by omega, by omega, fun _ => h2.lt, hB.le, hB.nil, hB'.at_.more fun b hb => ?_, fun i a hi ha => ?_⟩
  · exact Nat.ne_of_lt (Nat.lt_of_lt_of_le hb (Nat.le_add_right _ _))
  · obtain ⟨Ai, ci, q1, _, q3⟩ := h3 i a (by omega) ha
    exact ⟨Ai, ci, by rw [h2.cell]; exact q1, q3⟩
/-- The items of the first j of the sorted pairs. -/
def outP {l : List It} (d : List (PN l)) : List It := flatP (d.map fun x => (x.a, x.b))
theorem outP_nil {l : List It} : outP ([] : List (PN l)) = [] := rfl
theorem flatP_append (p q : List (It × It)) : flatP (p ++ q) = flatP p ++ flatP q := by
  induction p with
  | nil => rfl
  | cons x r ih => simp [flatP, ih]
theorem outP_more {l : List It} {d : List (PN l)} {j : Nat} {x : PN l} (hx : d[j]? = some x) : outP (d.take (j + 1)) = outP (d.take j) ++ [x.a, x.b] := by
  unfold outP
  rw [List.take_add_one, hx, List.map_append, flatP_append]
  rfl
theorem outP_take {l : List It} (d : List (PN l)) (j : Nat) : (outP (d.take j)).length ≤ 2 * j := by
  unfold outP
  rw [length_flatP, List.length_map, List.length_take]
  omega
/-- Sorted pairs, also of none. -/
theorem sort_any {W : World} {p gk gi K cap : Nat} {A : Option Addr} {l : List It} (ck : Ck W p gk gi K A cap l) (hok : okEL l) (hbk : bulkL l ≤ 1099511627776) (hev : l.length % 2 = 0) {n : Nat} (hn : l.length / 2 = n)
    (hp : Blk W p 3 (nums .i64 ((List.range n).map fun i : Nat => (i : Int)))) :
    Calls Try.prog 42 #[.slice (some ⟨p, 0, none⟩) n n, .func (.func 43) #[] #[.pointer (some ⟨gk, 0, none⟩), .pointer (some ⟨gi, 0, none⟩)]] W fun e w' =>
      e = .returned (.tuple #[]) ∧ ∃ d : List (PN l), d.length = n ∧ outP d = risen l ∧ (∀ (i : Nat) (x : PN l), d[i]? = some x → w'.cell? ⟨p, i, none⟩ = some (.int .i64 (x.i : Int))) ∧ Only p W w' := by
  rcases Nat.eq_zero_or_pos n with h0 | h0
  · subst h0
    have hl : l = [] := List.length_eq_zero_iff.1 (by omega)
    refine (Go.Proofs.AnyF.slices_SortFunc_none { Try.sortInts with } (some ⟨p, 0, none⟩) 0 _ W).mono ?_
    rintro e w' ⟨rfl, rfl⟩
    refine ⟨rfl, [], rfl, ?_, (fun i x hx => by simp at hx), Only.refl _ _⟩
    subst hl
    have := (risen_perm (l := []) rfl).length_eq
    exact (List.length_eq_zero_iff.1 this).symm
  · exact sort_pairs ck hok hbk (by omega) hn hp
end Go.Proofs.Ytlipjaopbhdbeaa
