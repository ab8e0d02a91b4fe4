/- An item that came in: how it reads. -/
import Derived.Test.YtgbbgdjdomkohaaGreatKAO
import Derived.Test.YtgbbgdjdomkohaaGreatKAZ
import Derived.Test.YtgbbgdjdomkohaaGreatRows
import Derived.Lib.SmallJoins
import Derived.Deep.Slices
namespace Go.Proofs.YtgbbgdjdomkohaaGreat
open Go.ChangeShapes Go.WideShapes Go.ChangeAt Go.RowKit

theorem AtL.of_items {w : World} {S : Nat → Prop} {b : Nat} (hS : S b) (hb : b < w.heap.size) : ∀ (l : List It) (o : Nat), (∀ i X, l[i]? = some X → At1 w S X b (o + i * 4)) → AtL w S l (some ⟨b, o, none⟩)
  | [], _, _ => AtL.nil _
  | t :: r, o, h => AtL.mk hS hb (by simpa using h 0 t rfl) (AtL.of_items hS hb r (o + 4) fun i X hX => by
    have := h (i + 1) X (by simpa using hX)
    rwa [show o + (i + 1) * 4 = o + 4 + i * 4 by omega] at this)
theorem itemsL_mem {p : Nat × It} : ∀ {l : List It} {d : Nat}, p ∈ itemsL l d → ∃ X ∈ l, p ∈ X.items d
  | [], d, h => by simp [itemsL] at h
  | t :: r, d, h => by
    rw [itemsL] at h
    rcases List.mem_append.1 h with h | h
    · exact ⟨t, by simp, h⟩
    · obtain ⟨X, hX, hp⟩ := itemsL_mem h
      exact ⟨X, by simp [hX], hp⟩
/-- An item's numbers and texts are as great as they can be, and it is no greater than N. -/
def okI (N : Nat) (t : It) : Prop := t.count ≤ N ∧ ∀ d p, p ∈ t.items d → 0 ≤ p.2.n ∧ p.2.n < 18446744073709551616 ∧ p.2.s.size ≤ N
theorem countL_bulk {H : Type} : ∀ (ts : List It) (ds : List (DataW H)), ts.length = ds.length → (∀ (i : Nat) (t : It) (d : DataW H), ts[i]? = some t → ds[i]? = some d → t.count ≤ Rows.uptoBulk d) → countL ts ≤ Rows.uptoBulkAll ds
  | [], [], _, _ => by simp [countL]
  | t :: ts, d :: ds, hl, h => by
    have h0 := h 0 t d rfl rfl
    have ih := countL_bulk ts ds (by simpa using hl) fun i t d h1 h2 => h (i + 1) t d (by simpa using h1) (by simpa using h2)
    simp only [countL, Rows.uptoBulkAll]
    omega
theorem bulk_mem {H : Type} {d : DataW H} : ∀ {ds : List (DataW H)}, d ∈ ds → Rows.uptoBulk d ≤ Rows.uptoBulkAll ds
  | x :: ds, h => by
    simp only [Rows.uptoBulkAll]
    rcases List.mem_cons.1 h with rfl | h
    · omega
    · have := bulk_mem h; omega
theorem bulk_one {H : Type} (l : Lit) : 1 ≤ Rows.uptoBulk (DataW.lit (H := H) l) := by cases l <;> simp [Rows.uptoBulk]
section
variable {H : Type} {enc : TypeId × Value → H} {W : World}
set_option maxRecDepth 100000 in
theorem trod_item : ∀ (f : Nat) (cs : List Value) (x : DataW H × List MemPlace), DataW.trod enc Tryz.prog W 0 (fun _ => true) true f 31 cs = some x →
    ∃ t A cap, cs = ic t A cap ∧ AtV W t A cap ∧ okI (Rows.uptoBulk x.1) t := by
  intro f
  induction f using Nat.strongRecOn with
  | _ f IH =>
    intro cs x h
    obtain ⟨xs, m, rfl, rfl, hl, hlen, hf⟩ := DataW.trod_struct Tryz.underlying31 h
    have hC : Tryz.prog.cellsOf 31 = 4 := by kernel_rfl
    rw [hC] at hl
    obtain ⟨c0, c1, c2, c3, rfl⟩ : ∃ c0 c1 c2 c3, cs = [c0, c1, c2, c3] := by
      match cs, hl with
      | [c0, c1, c2, c3], _ => exact ⟨c0, c1, c2, c3, rfl⟩
    obtain ⟨y0, y1, y2, y3, rfl⟩ : ∃ y0 y1 y2 y3, xs = [y0, y1, y2, y3] := by
      match xs, hlen with
      | [y0, y1, y2, y3], _ => exact ⟨y0, y1, y2, y3, rfl⟩
    have g0 := hf 0 _ rfl
    have g1 := hf 1 _ rfl
    have g2 := hf 2 _ rfl
    have g3 := hf 3 _ rfl
    have k0 : Tryz.prog.cellsOf 3 = 1 := by kernel_rfl
    have k1 : Tryz.prog.cellsOf 28 = 1 := by kernel_rfl
    have k2 : Tryz.prog.cellsOf 9 = 1 := by kernel_rfl
    have k3 : Tryz.prog.cellsOf 29 = 1 := by kernel_rfl
    simp [k0, k1, k2, k3] at g0 g1 g2 g3
    obtain ⟨k, e0, rfl, _⟩ := DataW.trod_int Tryz.underlying3 g0
    obtain ⟨n, e1, rfl, hn⟩ := DataW.trod_int Tryz.underlying28 g1
    obtain ⟨s, e2, rfl, _⟩ := DataW.trod_string Tryz.underlying9 g2
    injection e0 with e0
    injection e1 with e1
    injection e2 with e2
    subst e0 e1 e2
    have hn' : 0 ≤ n ∧ n < 18446744073709551616 := by
      simp [Lit.wf, IntKind.min, IntKind.max, IntKind.signed, IntKind.bits] at hn
      omega
    have hb : Rows.uptoBulk (DataW.agg (H := H) [.lit (.int .i64 k), .lit (.int .u64 n), .lit (.string s.data.toList), y3.1]) = s.size + Rows.uptoBulk y3.1 + 4 := by
      simp [Rows.uptoBulk, Rows.uptoBulkAll]
      omega
    suffices Hs : ∃ (l : List It) (A : Option Addr) (cap : Nat), c3 = .slice A l.length cap ∧ l.length ≤ cap ∧ (A = none → cap = 0) ∧ AtL W (fun _ => True) l A ∧ countL l + 1 ≤ Rows.uptoBulk y3.1 ∧
        ∀ d p, p ∈ itemsL l d → 0 ≤ p.2.n ∧ p.2.n < 18446744073709551616 ∧ p.2.s.size ≤ Rows.uptoBulk y3.1 by
      obtain ⟨l, A, cap, rfl, h1, h2, h3, h4, h5⟩ := Hs
      refine ⟨.mk k n s l, A, cap, rfl, ⟨h1, h2, h3⟩, ?_, fun d p hp => ?_⟩
      · simp only [List.map_cons, List.map_nil]
        rw [hb]
        simp only [It.count]
        omega
      · simp only [List.map_cons, List.map_nil]
        rw [hb]
        rw [It.items_eq] at hp
        rcases List.mem_cons.1 hp with rfl | hp
        · exact ⟨hn'.1, hn'.2, by show s.size ≤ _; omega⟩
        · have := h5 _ p hp
          omega
    rcases DataW.trod_slice Tryz.underlying29 g3 with ⟨hcs, hy⟩ | ⟨a, len, cap, elems, rest, q, hq, hcs, hy, _, hle, hm, hel, hall, _, _⟩
    · injection hcs with hcs
      subst hcs
      subst hy
      exact ⟨[], none, 0, rfl, by simp, fun _ => rfl, AtL.nil _, by simp [countL, Rows.uptoBulk], fun d p hp => by simp [itemsL] at hp⟩
    · injection hcs with hcs
      subst hcs
      rw [hC] at hall
      have each : ∀ i, i < len → ∃ z : It × Option Addr × Nat × (DataW H × List MemPlace), elems[i]? = some z.2.2.2 ∧ (∃ cs', W.cells? 0 (a.add (i * 4)) 4 = some cs' ∧ cs' = ic z.1 z.2.1 z.2.2.1) ∧ AtV W z.1 z.2.1 z.2.2.1 ∧ okI (Rows.uptoBulk z.2.2.2.1) z.1 := by
        intro i hi
        have := hall i hi
        rw [List.getElem?_eq_getElem (by omega)] at this
        obtain ⟨cs', h1, h2⟩ := Option.bind_eq_some_iff.1 this
        obtain ⟨t, A, c, h3, h4, h5⟩ := IH q (by omega) cs' _ h2
        exact ⟨(t, A, c, elems[i]), List.getElem?_eq_getElem (by omega), ⟨cs', h1, h3⟩, h4, h5⟩
      obtain ⟨z, hz⟩ := Go.Deep.choose_lt (α := It × Option Addr × Nat × (DataW H × List MemPlace)) each
      have hget : ∀ i X, ((List.range len).map fun i => (z i).1)[i]? = some X → i < len ∧ X = (z i).1 := fun i X hX => by
        rw [List.getElem?_map] at hX
        rcases Nat.lt_or_ge i len with h | h
        · simp [h] at hX
          exact ⟨h, hX.symm⟩
        · rw [List.getElem?_eq_none (by simpa using h)] at hX
          cases hX
      have hbs : Rows.uptoBulkAll (elems.map (·.1)) + 1 ≤ Rows.uptoBulk y3.1 := by
        rw [hy]
        simp only [Rows.uptoBulk]
        omega
      refine ⟨(List.range len).map fun i => (z i).1, some a, cap, by simp, by simpa using hle, (fun h => by cases h), ?_, ?_, ?_⟩
      · by_cases h0 : len = 0
        · subst h0; exact AtL.nil _
        · have cell : ∀ i, i < len → ∀ j u, (ic (z i).1 (z i).2.1 (z i).2.2.1)[j]? = some u → W.cell? (a.add (i * 4 + j)) = some u := fun i hi j u hu => by
            obtain ⟨_, ⟨cs', h1, h2⟩, _⟩ := hz i hi
            obtain ⟨_, hlen', hc⟩ := World.cells?_some h1
            have hj : j < 4 := by
              rcases Nat.lt_or_ge j (ic (z i).1 (z i).2.1 (z i).2.2.1).length with h | h
              · simpa [ic] using h
              · rw [List.getElem?_eq_none h] at hu; cases hu
            have := hc j hj
            rw [Go.Deep.add_add] at this
            rw [this, h2]
            exact hu
          have f0 := cell 0 (by omega) 0 _ rfl
          obtain ⟨b, off, spot⟩ := a
          have hspot : spot = none := by simpa [Addr.add] using World.cell?_spot f0
          subst hspot
          rw [Addr.add_mid] at f0
          refine AtL.of_items trivial (block_lt_of_cell f0) _ off fun i X hX => ?_
          obtain ⟨hi, rfl⟩ := hget i X hX
          obtain ⟨_, _, hv, _⟩ := hz i hi
          have e0 := cell i hi 0 _ rfl
          have e1 := cell i hi 1 _ rfl
          have e2 := cell i hi 2 _ rfl
          have e3 := cell i hi 3 _ rfl
          rw [Addr.add_mid] at e0 e1 e2 e3
          exact At1.mk _ _ e0 e1 e2 e3 hv.le hv.nil hv.at_
      · refine Nat.le_trans (Nat.succ_le_succ (countL_bulk _ (elems.map (·.1)) (by simp [hel]) fun i t d ht hd => ?_)) hbs
        obtain ⟨hi, rfl⟩ := hget i t ht
        obtain ⟨h1, _, _, h2⟩ := hz i hi
        rw [List.getElem?_map, h1] at hd
        injection hd with hd
        rw [← hd]
        exact h2.1
      · intro d p hp
        obtain ⟨X, hX, hp⟩ := itemsL_mem hp
        obtain ⟨i, hi, rfl⟩ := List.mem_map.1 hX
        rw [List.mem_range] at hi
        obtain ⟨h1, _, _, h2⟩ := hz i hi
        have h3 := h2.2 d p hp
        have h4 := bulk_mem (d := (z i).2.2.2.1) (ds := elems.map (·.1)) (List.mem_map.2 ⟨_, List.mem_of_getElem? h1, rfl⟩)
        exact ⟨h3.1, h3.2.1, by omega⟩
set_option maxRecDepth 100000 in
/-- An item among the arguments. -/
theorem open_item {b0 : Nat} {v : Value} {d : DataW H} {ps : List MemPlace} (hval : Value.okWide Tryz.prog W .any b0 31 v) (hd : DataW.Trod enc Tryz.prog W 0 (fun _ => true) true 31 v d ps) :
    ∃ t A cap, v = vI t A cap ∧ AtV W t A cap ∧ okI (Rows.uptoBulk d) t := by
  obtain ⟨cs, rfl, _⟩ := okWide_struct Tryz.underlying31 hval
  obtain ⟨fuel, hf⟩ := hd
  obtain ⟨t, A, cap, h1, h2, h3⟩ := trod_item fuel _ _ hf
  refine ⟨t, A, cap, ?_, h2, h3⟩
  have : cs = (ic t A cap).toArray := by
    apply Array.ext'
    simpa [Value.cells] using h1
  rw [this]
  rfl
end
end Go.Proofs.YtgbbgdjdomkohaaGreat

/- Items by value on slices of the call's own, their lists in the blocks of a set S. -/
namespace Go.Proofs.YtgbbgdjdomkohaaGreat
open Go.RowKit

/-- An item's items lie in memory, all in blocks of S. -/
structure AtS (w : World) (S : Nat → Prop) (t : It) (A : Option Addr) (cap : Nat) : Prop where
  le : t.l.length ≤ cap
  nil : A = none → cap = 0
  at_ : AtL w S t.l A
def LayS (w : World) (S : Nat → Prop) : List It → List Value → Prop
  | [], cs => cs = []
  | t :: r, cs => ∃ A cap cs', cs = ic t A cap ++ cs' ∧ AtS w S t A cap ∧ LayS w S r cs'
def OwnS (w : World) (S : Nat → Prop) (B : Nat) (v : Value) (its : List It) : Prop := ∃ cs, w.ownsRow B 31 4 v its.length cs ∧ LayS w S its cs
section
variable {w w' : World} {S T : Nat → Prop} {n B g cap : Nat} {t : It} {A : Option Addr} {v : Value} {its xs : List It} {cs cs' : List Value}
theorem AtS.toV (h : AtS w S t A cap) : AtV w t A cap := ⟨h.le, h.nil, h.at_.more fun _ _ => trivial⟩
theorem AtS.toB (h : AtS w S t A cap) (hS : ∀ b, S b → b < n) : AtB w n t A cap := ⟨h.le, h.nil, h.at_.more hS⟩
theorem AtS.keep (h : AtS w S t A cap) (hS : ∀ b, S b → b < n) (hb : Below n w w') : AtS w' S t A cap := ⟨h.le, h.nil, AtL.keep (fun b hs _ => hb.block b (hS b hs)) (fun _ h => h) _ _ h.at_⟩
theorem AtS.more (h : AtS w S t A cap) (hS : ∀ b, S b → T b) : AtS w T t A cap := ⟨h.le, h.nil, h.at_.more hS⟩
theorem AtB.toS (h : AtB w n t A cap) : AtS w (· < n) t A cap := ⟨h.le, h.nil, h.at_⟩
/-- Item number i: its cells, and what stands behind them. -/
theorem AtS.item (h : AtS w S t A cap) {i : Nat} (hi : i < t.l.length) : ∃ b o X A' cap', A = some ⟨b, o, none⟩ ∧ S b ∧ b < w.heap.size ∧ t.l[i]? = some X ∧ X ∈ t.l ∧
    w.cell? ⟨b, o + i * 4, none⟩ = some (.int .i64 X.k) ∧ w.cell? ⟨b, o + i * 4 + 1, none⟩ = some (.int .u64 X.n) ∧ w.cell? ⟨b, o + i * 4 + 2, none⟩ = some (.string X.s) ∧
    w.cell? ⟨b, o + i * 4 + 3, none⟩ = some (.slice A' X.l.length cap') ∧ AtS w S X A' cap' := by
  obtain ⟨b, o, rfl, hn, hb, h1, _⟩ := h.at_.get hi
  rw [Nat.mul_comm 4 i] at h1
  obtain ⟨A', cap', c0, c1, c2, c3, g1, g2, g3⟩ := h1.parts
  exact ⟨b, o, t.l[i], A', cap', rfl, hn, hb, List.getElem?_eq_getElem hi, List.getElem_mem hi, c0, c1, c2, c3, g1, g2, g3⟩
theorem LayS.one (h : AtS w S t A cap) : LayS w S [t] (ic t A cap) := ⟨A, cap, [], by simp, h, rfl⟩
theorem LayS.append : ∀ {its : List It} {cs : List Value}, LayS w S its cs → LayS w S xs cs' → LayS w S (its ++ xs) (cs ++ cs')
  | [], cs, h, k => by cases (show cs = [] from h); exact k
  | t :: r, cs, ⟨A, cap, c, e, h1, h2⟩, k => ⟨A, cap, c ++ cs', by rw [e, List.append_assoc], h1, LayS.append h2 k⟩
theorem LayS.keep (hS : ∀ b, S b → b < n) (hb : Below n w w') : ∀ {its : List It} {cs : List Value}, LayS w S its cs → LayS w' S its cs
  | [], _, h => h
  | _ :: _, _, ⟨A, cap, c, e, h1, h2⟩ => ⟨A, cap, c, e, h1.keep hS hb, LayS.keep hS hb h2⟩
theorem LayS.more (hS : ∀ b, S b → T b) : ∀ {its : List It} {cs : List Value}, LayS w S its cs → LayS w T its cs
  | [], _, h => h
  | _ :: _, _, ⟨A, cap, c, e, h1, h2⟩ => ⟨A, cap, c, e, h1.more hS, LayS.more hS h2⟩
theorem LayS.one_cell : ∀ {its : List It} {cs : List Value}, LayS w S its cs → ∀ u ∈ cs, u.oneCell' = true
  | [], cs, h, u, hu => by cases (show cs = [] from h); cases hu
  | t :: r, cs, ⟨A, cap, c, e, h1, h2⟩, u, hu => by
    subst e
    rcases List.mem_append.1 hu with h | h
    · exact ic_one _ _ _ u h
    · exact h2.one_cell u h
theorem LayS.length : ∀ {its : List It} {cs : List Value}, LayS w S its cs → cs.length = its.length * 4
  | [], cs, h => by cases (show cs = [] from h); rfl
  | t :: r, cs, ⟨A, cap, c, e, h1, h2⟩ => by
    subst e
    have := h2.length
    simp only [List.length_append, List.length_cons, ic, List.length_nil, this]
    omega
theorem LayS.get : ∀ {its : List It} {cs : List Value}, LayS w S its cs → ∀ {i : Nat} {X : It}, its[i]? = some X → ∃ A cap, cs[i * 4]? = some (.int .i64 X.k) ∧ cs[i * 4 + 1]? = some (.int .u64 X.n) ∧ cs[i * 4 + 2]? = some (.string X.s) ∧ cs[i * 4 + 3]? = some (.slice A X.l.length cap) ∧ AtS w S X A cap
  | [], _, _, i, X, hX => by cases hX
  | t :: r, cs, ⟨A, cap, c, e, h1, h2⟩, i, X, hX => by
    subst e
    cases i with
    | zero =>
      obtain rfl : t = X := by simpa using hX
      exact ⟨A, cap, rfl, rfl, rfl, rfl, h1⟩
    | succ i =>
      obtain ⟨A', cap', c0, c1, c2, c3, h⟩ := h2.get (i := i) (X := X) (by simpa using hX)
      refine ⟨A', cap', ?_, ?_, ?_, ?_, h⟩ <;> rw [show (i + 1) * 4 = i * 4 + 4 by omega]
      · exact c0
      · exact c1
      · exact c2
      · exact c3
theorem OwnI.toS (h : OwnI w n B v its) : OwnS w (· < n) B v its := by
  obtain ⟨cs, h1, h2⟩ := h
  refine ⟨cs, h1, ?_⟩
  have : ∀ {its : List It} {cs : List Value}, Lay w n its cs → LayS w (· < n) its cs := by
    intro its
    induction its with
    | nil => exact fun h => h
    | cons t r ih => rintro cs ⟨A, cap, c, e, k1, k2⟩; exact ⟨A, cap, c, e, k1.toS, ih k2⟩
  exact this h2
theorem OwnS.more (h : OwnS w S B v its) (hS : ∀ b, S b → T b) : OwnS w T B v its :=
  let ⟨cs, h1, h2⟩ := h
  ⟨cs, h1, h2.more hS⟩
theorem OwnS.keepB (h : OwnS w S B v its) (hb : Below w.heap.size w w') (hS : ∀ b, S b → b < w.heap.size) : OwnS w' S B v its :=
  let ⟨cs, h1, h2⟩ := h
  ⟨cs, oc_on h1 hb, h2.keep hS hb⟩
theorem OwnS.item (h : OwnS w S B (.slice (some ⟨g, 0, none⟩) its.length cap) its) {i : Nat} (hi : i < its.length) : ∃ X A' cap', its[i]? = some X ∧ X ∈ its ∧
    w.cell? ⟨g, i * 4, none⟩ = some (.int .i64 X.k) ∧ w.cell? ⟨g, i * 4 + 1, none⟩ = some (.int .u64 X.n) ∧ w.cell? ⟨g, i * 4 + 2, none⟩ = some (.string X.s) ∧
    w.cell? ⟨g, i * 4 + 3, none⟩ = some (.slice A' X.l.length cap') ∧ AtS w S X A' cap' := by
  obtain ⟨cs, h1, h2⟩ := h
  have hX := List.getElem?_eq_getElem hi
  obtain ⟨A, c, c0, c1, c2, c3, h3⟩ := h2.get hX
  exact ⟨its[i], A, c, hX, List.getElem_mem hi, (oc_cell h1 (by omega)).1.trans c0, (oc_cell h1 (by omega)).1.trans c1, (oc_cell h1 (by omega)).1.trans c2, (oc_cell h1 (by omega)).1.trans c3, h3⟩
/-- Items of the call's own, as those that come in stand. -/
theorem OwnS.atL (h : OwnS w S B (.slice (some ⟨g, 0, none⟩) its.length cap) its) (hg : g < w.heap.size) (hT : T g) (hS : ∀ b, S b → T b) : AtL w T its (some ⟨g, 0, none⟩) := by
  refine AtL.of_items hT hg its 0 fun i X hX => ?_
  have hi : i < its.length := by
    rcases Nat.lt_or_ge i its.length with h | h
    · exact h
    · rw [List.getElem?_eq_none h] at hX; cases hX
  obtain ⟨Y, A', c', hY, _, c0, c1, c2, c3, hat⟩ := h.item hi
  rw [hX] at hY
  cases hY
  simp only [Nat.zero_add]
  exact At1.mk A' c' c0 c1 c2 c3 hat.le hat.nil (hat.at_.more hS)
/-- Handed back. -/
theorem OwnS.hand (h : OwnS w S B v its) (hT : ∀ b, B ≤ b → T b) (hS : ∀ b, S b → T b) : ∃ A c, v = .slice A its.length c ∧ its.length ≤ c ∧ (A = none → c = 0) ∧ AtL w T its A := by
  obtain ⟨A, c, rfl, h1, _, h2, h3⟩ := oc_form h.choose_spec.1
  refine ⟨A, c, rfl, h1, h2, ?_⟩
  cases A with
  | none =>
    have : its = [] := List.length_eq_zero_iff.1 (by have := h2 rfl; omega)
    subst this
    exact AtL.nil _
  | some p =>
    obtain ⟨g, rfl, hB, hg⟩ := h3 p rfl
    exact h.atL hg (hT g hB) hS
end
theorem AtL.bound {w : World} {S : Nat → Prop} {l : List It} {A : Option Addr} (h : AtL w S l A) : AtL w (fun b => S b ∧ b < w.heap.size) l A := by
  suffices H : ∀ (c : Nat) (l : List It) (A : Option Addr), countL l ≤ c → AtL w S l A → AtL w (fun b => S b ∧ b < w.heap.size) l A from H _ l A (Nat.le_refl _) h
  intro c
  induction c with
  | zero =>
    intro l A hc h
    cases l with
    | nil => exact AtL.nil _
    | cons t r => rw [countL, It.count_eq] at hc; omega
  | succ c ih =>
    intro l A hc h
    cases l with
    | nil => exact AtL.nil _
    | cons t r =>
      rw [countL, It.count_eq] at hc
      obtain ⟨b, o, rfl, hs, hb, h1, h2⟩ := h.cons
      obtain ⟨A', cap', c0, c1, c2, c3, g1, g2, g3⟩ := h1.parts
      exact AtL.mk ⟨hs, hb⟩ hb (At1.mk A' cap' c0 c1 c2 c3 g1 g2 (ih _ _ (by omega) g3)) (ih _ _ (by omega) h2)

theorem LayS.keep3 {w w' : World} {S T : Nat → Prop} (hk : ∀ b, S b → b < w.heap.size → w'.heap[b]? = w.heap[b]?) (hS : ∀ b, S b → T b) : ∀ {its : List It} {cs : List Value}, LayS w S its cs → LayS w' T its cs
  | [], _, h => h
  | _ :: _, _, ⟨A, cap, c, e, h1, h2⟩ => ⟨A, cap, c, e, ⟨h1.le, h1.nil, AtL.keep hk hS _ _ h1.at_⟩, LayS.keep3 hk hS h2⟩
/-- A slice of the call's own that reads as items, none of whose lists lies in its own block. -/
def OwnT (w : World) (B : Nat) (v : Value) (its : List It) : Prop := ∃ cs, w.ownsRow B 31 4 v its.length cs ∧ LayS w (fun b => B ≤ b ∧ b < w.heap.size ∧ v.ownBlock ≠ some b) its cs
section
variable {w w' : World} {B : Nat} {v : Value} {its : List It}
theorem OwnT.nil (w : World) (B : Nat) : OwnT w B (.slice none 0 0) [] := ⟨[], ⟨by simp, .inl ⟨rfl, rfl⟩⟩, rfl⟩
theorem OwnT.keep (h : OwnT w B v its) (hs : w.heap.size ≤ w'.heap.size) (hk : ∀ b, B ≤ b → b < w.heap.size → w'.heap[b]? = w.heap[b]?) : OwnT w' B v its :=
  let ⟨cs, h1, h2⟩ := h
  ⟨cs, oc_keep h1 hk, h2.keep3 (fun b hb hl => hk b hb.1 hl) (fun b hb => ⟨hb.1, Nat.lt_of_lt_of_le hb.2.1 hs, hb.2.2⟩)⟩
theorem OwnT.on (h : OwnT w B v its) (hb : Below w.heap.size w w') : OwnT w' B v its := h.keep hb.size fun b _ hl => hb.block b hl
theorem OwnT.toS (h : OwnT w B v its) : OwnS w (fun b => B ≤ b) B v its :=
  let ⟨cs, h1, h2⟩ := h
  ⟨cs, h1, h2.more fun _ hb => hb.1⟩
theorem OwnT.form (h : OwnT w B v its) : ∃ A c, v = .slice A its.length c ∧ its.length ≤ c ∧ (A = none → c = 0) ∧ AtL w (fun b => B ≤ b) its A := h.toS.hand (fun _ h => h) (fun _ h => h)
/-- One more item. -/
theorem OwnT.add (h : OwnT w B v its) (hB : B ≤ w.heap.size) {X : It} {A : Option Addr} {c : Nat} (hX : AtS w (fun b => B ≤ b ∧ b < w.heap.size ∧ v.ownBlock ≠ some b) X A c) (hsz : its.length + 1 ≤ 1099511627776) :
    ∃ v' w', (Builtin.append_ #[29, 29] 29 #[v, .slice (some ⟨w.heap.size, 0, none⟩) 1 1]).run Tryz.prog (w.alloc (.cells #[.int .i64 X.k, .int .u64 X.n, .string X.s, .slice A X.l.length c] 31)) = .ok v' w' ∧
      OwnT w' B v' (its ++ [X]) ∧ Below B w w' ∧ (w.alloc (.cells #[.int .i64 X.k, .int .u64 X.n, .string X.s, .slice A X.l.length c] 31)).grownBy w' v.ownBlock := by
  have S := below_alloc w (.cells #[.int .i64 X.k, .int .u64 X.n, .string X.s, .slice A X.l.length c] 31)
  have hb : Blk (w.alloc (.cells #[.int .i64 X.k, .int .u64 X.n, .string X.s, .slice A X.l.length c] 31)) w.heap.size 31 #[.int .i64 X.k, .int .u64 X.n, .string X.s, .slice A X.l.length c] := Blk.fresh _ _ _
  have hz : (w.alloc (.cells #[.int .i64 X.k, .int .u64 X.n, .string X.s, .slice A X.l.length c] 31)).heap.size = w.heap.size + 1 := by simp
  generalize w.alloc (.cells #[.int .i64 X.k, .int .u64 X.n, .string X.s, .slice A X.l.length c] 31) = w1 at *
  obtain ⟨cs, o1, l1⟩ := h
  have o1' := oc_on o1 S
  obtain ⟨v', w', r1, r2, r3, r4, r5⟩ := oc_append (P := Tryz.prog) (t := 29) (ty := 29) (e := 31) (s := 4) (bytes := 56) (m := 1) (c := 1) (news := ic X A c) (a := ⟨w.heap.size, 0, none⟩) (by kernel_rfl) infoItem rfl (by decide) (by decide) o1' rfl
    (fun j u hj => by
      rw [Addr.add_mid, Nat.zero_add]
      exact (hb.cell j).trans (by rw [List.getElem?_toArray]; exact hj)) (ic_one _ _ _) hsz (Nat.le_trans hB S.size)
  have hk : ∀ b, (B ≤ b ∧ b < w.heap.size ∧ v.ownBlock ≠ some b) → b < w.heap.size → w'.heap[b]? = w.heap[b]? := fun b hb hl => (r4.block b (by omega) (fun e => hb.2.2 e.symm)).trans (S.block b hl)
  have hS : ∀ b, (B ≤ b ∧ b < w.heap.size ∧ v.ownBlock ≠ some b) → B ≤ b ∧ b < w'.heap.size ∧ v'.ownBlock ≠ some b := fun b hb => by
    refine ⟨hb.1, by have := r4.size; omega, fun e => ?_⟩
    rcases r5 with h | h
    · rw [h] at e; exact hb.2.2 e
    · rw [h] at e; injection e with e; omega
  refine ⟨v', w', r1, ⟨cs ++ ic X A c, by rw [List.length_append]; exact r2, (l1.keep3 hk hS).append (LayS.one ⟨hX.le, hX.nil, AtL.keep hk hS _ _ hX.at_⟩)⟩, (S.mono hB).trans r3, r4⟩
end
end Go.Proofs.YtgbbgdjdomkohaaGreat
