/- An item that came in: how it reads. -/
import Derived.Test.YtgbbgdjdomkohaaKAH
import Derived.Test.YtgbbgdjdomkohaaKAZ
import Derived.Test.YtgbbgdjdomkohaaRows
import Derived.Lib.SmallJoins
import Derived.Deep.Slices
import Derived.StillTail
import Derived.Lib.QuietBelowIn
import Derived.OwnWalkIn
import Derived.Test.YtgbbgdjdomkohaaKAF
namespace Go.Proofs.Ytgbbgdjdomkohaa
open Go.ChangeShapes Go.WideShapes Go.ChangeAt Go.RowKit

theorem AtL.of_items {w : World} {S : Nat → Prop} {b : Nat} (hS : S b) (hb : b < w.heap.size) : ∀ (l : List It) (o : Nat), (∀ i X, l[i]? = some X → At1 w S X b (o + i * 4)) → AtL w S l (some ⟨b, o, none⟩)
  | [], _, _ => AtL.nil _
  | t :: r, o, h => AtL.mk hS hb (by simpa using h 0 t rfl) (AtL.of_items hS hb r (o + 4) fun i X hX => by
    have := h (i + 1) X (by simpa using hX)
    rwa [show o + (i + 1) * 4 = o + 4 + i * 4 by omega] at this)
theorem itemsL_mem {p : Nat × It} : ∀ {l : List It} {d : Nat}, p ∈ itemsL l d → ∃ X ∈ l, p ∈ X.items d
  | [], d, h => by simp [itemsL] at h
  | t :: r, d, h => by
    rw [itemsL] at h
    rcases List.mem_append.1 h with h | h
    · exact ⟨t, by simp, h⟩
    · obtain ⟨X, hX, hp⟩ := itemsL_mem h
      exact ⟨X, by simp [hX], hp⟩
/-- An item's numbers and texts are as great as they can be, and it is no greater than N. -/
def okI (N : Nat) (t : It) : Prop := t.count ≤ N ∧ ∀ d p, p ∈ t.items d → 0 ≤ p.2.n ∧ p.2.n < 18446744073709551616 ∧ p.2.s.size ≤ N
theorem countL_bulk {H : Type} : ∀ (ts : List It) (ds : List (DataW H)), ts.length = ds.length → (∀ (i : Nat) (t : It) (d : DataW H), ts[i]? = some t → ds[i]? = some d → t.count ≤ Rows.uptoBulk d) → countL ts ≤ Rows.uptoBulkAll ds
  | [], [], _, _ => by simp [countL]
  | t :: ts, d :: ds, hl, h => by
    have h0 := h 0 t d rfl rfl
    have ih := countL_bulk ts ds (by simpa using hl) fun i t d h1 h2 => h (i + 1) t d (by simpa using h1) (by simpa using h2)
    simp only [countL, Rows.uptoBulkAll]
    omega
theorem bulk_mem {H : Type} {d : DataW H} : ∀ {ds : List (DataW H)}, d ∈ ds → Rows.uptoBulk d ≤ Rows.uptoBulkAll ds
  | x :: ds, h => by
    simp only [Rows.uptoBulkAll]
    rcases List.mem_cons.1 h with rfl | h
    · omega
    · have := bulk_mem h; omega
theorem bulk_one {H : Type} (l : Lit) : 1 ≤ Rows.uptoBulk (DataW.lit (H := H) l) := by cases l <;> simp [Rows.uptoBulk]
section
variable {H : Type} {enc : TypeId × Value → H} {W : World}
set_option maxRecDepth 100000 in
theorem trod_item : ∀ (f : Nat) (cs : List Value) (x : DataW H × List MemPlace), DataW.trod enc Try.prog W 0 (fun _ => true) true f 40 cs = some x →
    ∃ t A cap, cs = ic t A cap ∧ AtV W t A cap ∧ okI (Rows.uptoBulk x.1) t := by
  intro f
  induction f using Nat.strongRecOn with
  | _ f IH =>
    intro cs x h
    obtain ⟨xs, m, rfl, rfl, hl, hlen, hf⟩ := DataW.trod_struct Try.underlying40 h
    have hC : Try.prog.cellsOf 40 = 4 := by kernel_rfl
    rw [hC] at hl
    obtain ⟨c0, c1, c2, c3, rfl⟩ : ∃ c0 c1 c2 c3, cs = [c0, c1, c2, c3] := by
      match cs, hl with
      | [c0, c1, c2, c3], _ => exact ⟨c0, c1, c2, c3, rfl⟩
    obtain ⟨y0, y1, y2, y3, rfl⟩ : ∃ y0 y1 y2 y3, xs = [y0, y1, y2, y3] := by
      match xs, hlen with
      | [y0, y1, y2, y3], _ => exact ⟨y0, y1, y2, y3, rfl⟩
    have g0 := hf 0 _ rfl
    have g1 := hf 1 _ rfl
    have g2 := hf 2 _ rfl
    have g3 := hf 3 _ rfl
    have k0 : Try.prog.cellsOf 3 = 1 := by kernel_rfl
    have k1 : Try.prog.cellsOf 37 = 1 := by kernel_rfl
    have k2 : Try.prog.cellsOf 9 = 1 := by kernel_rfl
    have k3 : Try.prog.cellsOf 38 = 1 := by kernel_rfl
    simp [k0, k1, k2, k3] at g0 g1 g2 g3
    obtain ⟨k, e0, rfl, _⟩ := DataW.trod_int Try.underlying3 g0
    obtain ⟨n, e1, rfl, hn⟩ := DataW.trod_int Try.underlying37 g1
    obtain ⟨s, e2, rfl, _⟩ := DataW.trod_string Try.underlying9 g2
    injection e0 with e0
    injection e1 with e1
    injection e2 with e2
    subst e0 e1 e2
    have hn' : 0 ≤ n ∧ n < 18446744073709551616 := by
      simp [Lit.wf, IntKind.min, IntKind.max, IntKind.signed, IntKind.bits] at hn
      omega
    have hb : Rows.uptoBulk (DataW.agg (H := H) [.lit (.int .i64 k), .lit (.int .u64 n), .lit (.string s.data.toList), y3.1]) = s.size + Rows.uptoBulk y3.1 + 4 := by
      simp [Rows.uptoBulk, Rows.uptoBulkAll]
      omega
    suffices Hs : ∃ (l : List It) (A : Option Addr) (cap : Nat), c3 = .slice A l.length cap ∧ l.length ≤ cap ∧ (A = none → cap = 0) ∧ AtL W (fun _ => True) l A ∧ countL l + 1 ≤ Rows.uptoBulk y3.1 ∧
        ∀ d p, p ∈ itemsL l d → 0 ≤ p.2.n ∧ p.2.n < 18446744073709551616 ∧ p.2.s.size ≤ Rows.uptoBulk y3.1 by
      obtain ⟨l, A, cap, rfl, h1, h2, h3, h4, h5⟩ := Hs
      refine ⟨.mk k n s l, A, cap, rfl, ⟨h1, h2, h3⟩, ?_, fun d p hp => ?_⟩
      · simp only [List.map_cons, List.map_nil]
        rw [hb]
        simp only [It.count]
        omega
      · simp only [List.map_cons, List.map_nil]
        rw [hb]
        rw [It.items_eq] at hp
        rcases List.mem_cons.1 hp with rfl | hp
        · exact ⟨hn'.1, hn'.2, by show s.size ≤ _; omega⟩
        · have := h5 _ p hp
          omega
    rcases DataW.trod_slice Try.underlying38 g3 with ⟨hcs, hy⟩ | ⟨a, len, cap, elems, rest, q, hq, hcs, hy, _, hle, hm, hel, hall, _, _⟩
    · injection hcs with hcs
      subst hcs
      subst hy
      exact ⟨[], none, 0, rfl, by simp, fun _ => rfl, AtL.nil _, by simp [countL, Rows.uptoBulk], fun d p hp => by simp [itemsL] at hp⟩
    · injection hcs with hcs
      subst hcs
      rw [hC] at hall
      have each : ∀ i, i < len → ∃ z : It × Option Addr × Nat × (DataW H × List MemPlace), elems[i]? = some z.2.2.2 ∧ (∃ cs', W.cells? 0 (a.add (i * 4)) 4 = some cs' ∧ cs' = ic z.1 z.2.1 z.2.2.1) ∧ AtV W z.1 z.2.1 z.2.2.1 ∧ okI (Rows.uptoBulk z.2.2.2.1) z.1 := by
        intro i hi
        have := hall i hi
        rw [List.getElem?_eq_getElem (by omega)] at this
        obtain ⟨cs', h1, h2⟩ := Option.bind_eq_some_iff.1 this
        obtain ⟨t, A, c, h3, h4, h5⟩ := IH q (by omega) cs' _ h2
        exact ⟨(t, A, c, elems[i]), List.getElem?_eq_getElem (by omega), ⟨cs', h1, h3⟩, h4, h5⟩
      obtain ⟨z, hz⟩ := Go.Deep.choose_lt (α := It × Option Addr × Nat × (DataW H × List MemPlace)) each
      have hget : ∀ i X, ((List.range len).map fun i => (z i).1)[i]? = some X → i < len ∧ X = (z i).1 := fun i X hX => by
        rw [List.getElem?_map] at hX
        rcases Nat.lt_or_ge i len with h | h
        · simp [h] at hX
          exact ⟨h, hX.symm⟩
        · rw [List.getElem?_eq_none (by simpa using h)] at hX
          cases hX
      have hbs : Rows.uptoBulkAll (elems.map (·.1)) + 1 ≤ Rows.uptoBulk y3.1 := by
        rw [hy]
        simp only [Rows.uptoBulk]
        omega
      refine ⟨(List.range len).map fun i => (z i).1, some a, cap, by simp, by simpa using hle, (fun h => by cases h), ?_, ?_, ?_⟩
      · by_cases h0 : len = 0
        · subst h0; exact AtL.nil _
        · have cell : ∀ i, i < len → ∀ j u, (ic (z i).1 (z i).2.1 (z i).2.2.1)[j]? = some u → W.cell? (a.add (i * 4 + j)) = some u := fun i hi j u hu => by
            obtain ⟨_, ⟨cs', h1, h2⟩, _⟩ := hz i hi
            obtain ⟨_, hlen', hc⟩ := World.cells?_some h1
            have hj : j < 4 := by
              rcases Nat.lt_or_ge j (ic (z i).1 (z i).2.1 (z i).2.2.1).length with h | h
              · simpa [ic] using h
              · rw [List.getElem?_eq_none h] at hu; cases hu
            have := hc j hj
            rw [Go.Deep.add_add] at this
            rw [this, h2]
            exact hu
          have f0 := cell 0 (by omega) 0 _ rfl
          obtain ⟨b, off, spot⟩ := a
          have hspot : spot = none := by simpa [Addr.add] using World.cell?_spot f0
          subst hspot
          rw [Addr.add_mid] at f0
          refine AtL.of_items trivial (block_lt_of_cell f0) _ off fun i X hX => ?_
          obtain ⟨hi, rfl⟩ := hget i X hX
          obtain ⟨_, _, hv, _⟩ := hz i hi
          have e0 := cell i hi 0 _ rfl
          have e1 := cell i hi 1 _ rfl
          have e2 := cell i hi 2 _ rfl
          have e3 := cell i hi 3 _ rfl
          rw [Addr.add_mid] at e0 e1 e2 e3
          exact At1.mk _ _ e0 e1 e2 e3 hv.le hv.nil hv.at_
      · refine Nat.le_trans (Nat.succ_le_succ (countL_bulk _ (elems.map (·.1)) (by simp [hel]) fun i t d ht hd => ?_)) hbs
        obtain ⟨hi, rfl⟩ := hget i t ht
        obtain ⟨h1, _, _, h2⟩ := hz i hi
        rw [List.getElem?_map, h1] at hd
        injection hd with hd
        rw [← hd]
        exact h2.1
      · intro d p hp
        obtain ⟨X, hX, hp⟩ := itemsL_mem hp
        obtain ⟨i, hi, rfl⟩ := List.mem_map.1 hX
        rw [List.mem_range] at hi
        obtain ⟨h1, _, _, h2⟩ := hz i hi
        have h3 := h2.2 d p hp
        have h4 := bulk_mem (d := (z i).2.2.2.1) (ds := elems.map (·.1)) (List.mem_map.2 ⟨_, List.mem_of_getElem? h1, rfl⟩)
        exact ⟨h3.1, h3.2.1, by omega⟩
set_option maxRecDepth 100000 in
/-- An item among the arguments. -/
theorem open_item {b0 : Nat} {v : Value} {d : DataW H} {ps : List MemPlace} (hval : Value.okWide Try.prog W .any b0 40 v) (hd : DataW.Trod enc Try.prog W 0 (fun _ => true) true 40 v d ps) :
    ∃ t A cap, v = vI t A cap ∧ AtV W t A cap ∧ okI (Rows.uptoBulk d) t := by
  obtain ⟨cs, rfl, _⟩ := okWide_struct Try.underlying40 hval
  obtain ⟨fuel, hf⟩ := hd
  obtain ⟨t, A, cap, h1, h2, h3⟩ := trod_item fuel _ _ hf
  refine ⟨t, A, cap, ?_, h2, h3⟩
  have : cs = (ic t A cap).toArray := by
    apply Array.ext'
    simpa [Value.cells] using h1
  rw [this]
  rfl
end
end Go.Proofs.Ytgbbgdjdomkohaa

/- A region that draws its order, inside a round of a loop over a function too: operations that only read, and calls that lay blocks of their own, walked once in the order of the text; others may stand behind them. -/
namespace Go.Proofs.Ytgbbgdjdomkohaa
open Go Go.Sort

section
variable {F : Fence} {m : Nat} {P : Program} {ops : Array Oper} {md : Region.Mode} {C : World → Prop}

def isDefer : Op → Bool
  | .defer _ => true
  | _ => false
def noDefer (ops : Array Oper) : Bool := ops.all fun o => !isDefer o.op
theorem noDefer_spec (h : noDefer ops = true) {i : Nat} {o : Oper} (ho : ops[i]? = some o) : ∀ c, o.op ≠ .defer c := by
  intro c e
  unfold noDefer at h
  rw [Array.all_eq_true] at h
  obtain ⟨hi, he⟩ := Array.getElem?_eq_some_iff.1 ho
  have := h i hi
  rw [he, e] at this
  cases this
theorem wpIn_of_quietR {o : Oper} {a : Act} {K : Act → Prop} {K' : Act → World → Prop} {Q' : Exit → Act → World → Prop} {w : World} (hd : ∀ c, o.op ≠ .defer c) (hw : C w) (h : ∀ a w', C w' → K a → K' a w')
    (ha : o.askedIn F P a C) (hh : o.quietIn F m P a C K) : o.wpIn F m P a w K' Q' := by
  obtain ⟨v, h1, h2⟩ := hh
  have h3 := h1 w hw
  unfold Oper.quietAtIn at h3
  unfold Oper.wpIn
  refine ⟨ha w hw, ?_⟩
  rw [Oper.semAt_plain F _ _ hd]
  generalize (execOp a.eval o).run P w = r at *
  cases r with
  | ok x w' =>
    cases x <;> simp only [Oper.quietUponIn] at h3 <;> simp only [Oper.uponIn]
    case value u =>
      obtain ⟨e1, e2⟩ := h3
      rw [e1, e2]
      exact h _ _ hw h2
    case skip =>
      obtain ⟨e1, e2⟩ := h3
      rw [e1, ← e2]
      exact h _ _ hw h2
    case enter f args =>
      obtain ⟨e1, hd, hc⟩ := h3
      rw [e1]
      exact ⟨hd, hc.mono fun e w'' ⟨he, hw''⟩ => by subst he; exact h _ _ hw'' h2⟩
  | halt x w' => simp only [Oper.quietUponIn] at h3
theorem wpOpIn_of_qOpInR {i : Nat} {a : Act} {K : Act → Prop} {K' : Act → World → Prop} {Q' : Exit → Act → World → Prop} {w : World} (hnd : noDefer ops = true) (hC : C w) (h : ∀ a w', C w' → K a → K' a w')
    (hh : qOpIn F m P ops C i K a) : wpOpIn F m P ops Q' i K' a w := by
  unfold qOpIn at hh
  unfold wpOpIn
  split
  · rename_i ho; simp only [ho] at hh; exact h _ _ hC hh
  · rename_i o ho
    simp only [ho] at hh
    obtain ⟨ha, hh⟩ := hh
    split
    · rename_i hw; simp only [hw, if_true] at hh; exact wpIn_of_quietR (noDefer_spec hnd ho) hC h ha hh
    · rename_i hw; simp only [hw] at hh; exact ⟨ha w hC, h _ _ hC hh⟩
theorem wpAnyIn_of_quietR {Q : Act → Prop} {Q' : Exit → Act → World → Prop} (hnd : noDefer ops = true) (hQ : ∀ a w, C w → Q a → Q' .normal a w) : ∀ (fuel : Nat) (listed : Array Bool) (a : Act) (w : World), C w →
    wpAnyQIn F m P md ops C Q fuel listed a → wpAnyIn F m P md ops Q' fuel listed a w
  | 0, _, _, _, hw, h => ⟨h.1, hQ _ _ hw h.2⟩
  | fuel + 1, _, _, _, hw, h => ⟨fun h0 => hQ _ _ hw (h.1 h0), fun i hi => wpOpIn_of_qOpInR hnd hw (fun a' w' hw' => wpAnyIn_of_quietR hnd hQ fuel _ a' w' hw') (h.2 i hi)⟩
/-- The whole region only reads, its callees lay blocks of their own. -/
theorem wpIn_region_quietR {id : Nat} {Q : Exit → Act → World → Prop} {a : Act} {w : World} {l : List Oper} (hm : P.follows .mixedOrders = true) (hnd : noDefer l.toArray = true) (hB : Region.lexB .any l.toArray = true)
    (h : wpQuietIn F m P l.toArray (fun w' => ∃ p : Regrown, w' = grow (redrawn w p.d) p.os) (fun a' => ∀ w', (∃ p : Regrown, w' = grow (redrawn w p.d) p.os) → Q .normal a' w') l a) : (Code.region id l.toArray true).wpIn F m P Q a w := by
  simp only [Region.lexB, Bool.and_eq_true] at hB
  refine wpIn_region_any hm (wpAnyIn_of_quietR (C := fun w' => ∃ p : Regrown, w' = grow (redrawn w p.d) p.os) (Q := fun a' => ∀ w', (∃ p : Regrown, w' = grow (redrawn w p.d) p.os) → Q .normal a' w') hnd (fun _ w' hw' h => h w' hw') _ _ _ _ ⟨⟨w.drawn + 1, #[]⟩, by rw [grow_empty]; rfl⟩ ?_)
  have := wpAnyQIn_lex (F := F) (n := m) (C := fun w' => ∃ p : Regrown, w' = grow (redrawn w p.d) p.os) (md := .any) hB.1 l 0 (Array.replicate l.toArray.size false) a (by simp) (by simpa using hB.2) h
  simpa using this

/-- f operations come up, all ahead of number n, whatever their order; then L holds. -/
def headQIn (F : Fence) (m : Nat) (P : Program) (md : Region.Mode) (ops : Array Oper) (C : World → Prop) (n : Nat) (L : Array Bool → Act → Prop) : Nat → Array Bool → Act → Prop
  | 0, seen, a => L seen a
  | f + 1, seen, a => Region.ready md ops seen ≠ [] ∧ ∀ i, i ∈ Region.ready md ops seen → i < n ∧ qOpIn F m P ops C i (fun b => headQIn F m P md ops C n L f (seen.setIfInBounds i true) b) a
theorem any_of_headQIn {n g : Nat} {L : Array Bool → Act → Prop} {R : Exit → Act → World → Prop} (hnd : noDefer ops = true) (hL : ∀ seen a w, C w → L seen a → wpAnyIn F m P md ops R g seen a w) (f : Nat) :
    ∀ (seen : Array Bool) (a : Act) (w : World), C w → headQIn F m P md ops C n L f seen a → wpAnyIn F m P md ops R (f + g) seen a w := by
  induction f with
  | zero => intro seen a w hw h; rw [Nat.zero_add]; exact hL _ _ _ hw h
  | succ f ih =>
    intro seen a w hw h
    rw [Nat.add_right_comm]
    refine ⟨fun e => (h.1 e).elim, fun i hi => ?_⟩
    exact wpOpIn_of_qOpInR hnd hw (fun b w' hw' hb => ih _ b w' hw' hb) (h.2 i hi).2
theorem headQIn_first {n i : Nat} {oi : Oper} {v : Value} {L : Array Bool → Act → Prop} (hi : ops[i]? = some oi) (hsel : ∀ (j : Nat) (o : Oper) cs b, ops[j]? = some o → o.op ≠ .select cs b)
    (hs : Region.sinkB md ops n = true) (hc : Region.chainB md ops n = true) (hn : n < ops.size) (hin : i < n) (hend : ∀ seen a, L seen a → ∀ j, j ∈ Region.ready md ops seen → n ≤ j) (f : Nat) :
    ∀ (seen : Array Bool) (a : Act), HeadInv md ops n seen → (∀ j oj, ops[j]? = some oj → j ≠ i → seen.getD j true = false → (∀ e ∈ oj.after, Region.binds md e = true → e.on ≠ i) → oi.apart ops oj = true) →
      i ∈ Region.ready md ops seen → YieldsQuiet F m P ops C oi v a → headQIn F m P md ops C n L f (seen.setIfInBounds i true) (a.put oi.dst v) → headQIn F m P md ops C n L (f + 1) seen a := by
  induction f with
  | zero =>
    intro seen a inv _ hr hy H
    refine ⟨List.ne_nil_of_mem hr, fun j hj => ?_⟩
    have hjn : j < n := Nat.lt_of_not_le fun hle => tail_waits hs hc hn inv _ i rfl hin (mem_ready.1 hr).1 j hle hj
    refine ⟨hjn, ?_⟩
    rcases Decidable.em (j = i) with e | e
    · rw [e]; exact hy.qOpIn hi H
    · exact absurd (hend _ _ H j (ready_mono hj e)) (Nat.not_le_of_lt hjn)
  | succ f ih =>
    intro seen a inv hfree hr hy H
    have hun := (mem_ready.1 hr).1
    refine ⟨List.ne_nil_of_mem hr, fun j hj => ?_⟩
    have hjn : j < n := Nat.lt_of_not_le fun hle => tail_waits hs hc hn inv _ i rfl hin hun j hle hj
    refine ⟨hjn, ?_⟩
    rcases Decidable.em (j = i) with e | e
    · rw [e]; exact hy.qOpIn hi H
    obtain ⟨hju, oj, hoj, hall⟩ := mem_ready.1 hj
    have hno : ∀ x ∈ oj.after, Region.binds md x = true → x.on ≠ i := fun x hx hb he => by
      have := hall x hx hb
      rw [he, getD_both hun] at this
      exact Bool.noConfusion this
    have h1 := (H.2 j (ready_mono hj e)).2
    have h2 := qOpIn_put hoj (hfree j oj hoj e hju hno) (fun cs b => hsel i oi cs b hi) (fun cs b => hsel j oj cs b hoj) hy h1
    refine qOpIn_mono (fun b hb => ?_) h2
    refine ih _ b (inv.set hj hjn) (fun k ok hk hki hku hkn => ?_) (ready_mono hr (Ne.symm e)) hb.1 ?_
    · refine hfree k ok hk hki ?_ hkn
      rcases Decidable.em (j = k) with ejk | ejk
      · rw [← ejk]; exact hju
      · rwa [getD_set_ne true ejk] at hku
    · rw [Array.setIfInBounds_comm _ _ e]
      exact hb.2
theorem headQIn_lex {n g : Nat} {K : Act → Prop} (hsel : Region.noSelect ops = true) (hs : Region.sinkB md ops n = true) (hc : Region.chainB md ops n = true) (hn : n < ops.size) (l : List Oper) :
    ∀ (k : Nat) (seen : Array Bool) (a : Act), (∀ j, j < l.length → l[j]? = ops[k + j]?) → k + l.length = n → HeadInv md ops n seen → Region.lexHead md ops g l.length k seen = true → wpQuietIn F m P ops C K l a →
      headQIn F m P md ops C n (fun s b => Region.seqB md ops g n s = true ∧ K b) l.length seen a := by
  induction l with
  | nil =>
    intro k seen a _ hk _ hB h
    obtain rfl : k = n := hk
    exact ⟨hB, h⟩
  | cons o l ih =>
    intro k seen a hl hk inv hB h
    have h0 : ops[k]? = some o := (hl 0 (Nat.succ_pos _)).symm
    rw [List.length_cons] at hk
    simp only [List.length_cons, Region.lexHead, Bool.and_eq_true, List.contains_iff_mem] at hB
    have hkn : k < n := by omega
    have hq : qOpIn F m P ops C k (wpQuietIn F m P ops C K l) a := by unfold qOpIn; rw [h0]; exact h
    obtain ⟨v, hy, hK⟩ := yieldsQuiet_of_qOpIn h0 hq
    refine headQIn_first h0 (Region.noSelect_spec hsel) hs hc hn hkn (fun s b hL => seqB_ready hL.1) l.length seen a inv (Region.free_spec h0 hB.1.2) hB.1.1 hy ?_
    refine ih (k + 1) _ _ (fun j hj => ?_) (by omega) (inv.set hB.1.1 hkn) hB.2 hK
    have := hl (j + 1) (by simpa using hj)
    rw [show k + 1 + j = k + (j + 1) by omega, ← this]
    rfl
theorem wpAnyIn_of_seq {Q' : Exit → Act → World → Prop} : ∀ (l : List Oper) (k : Nat) (listed : Array Bool) (a : Act) (w : World), (∀ j, l[j]? = ops[k + j]?) →
    Region.seqB md ops l.length k listed = true → wpListIn F m P ops Q' l a w → wpAnyIn F m P md ops Q' l.length listed a w
  | [], _, _, _, _, _, hB, h => ⟨by simpa [Region.seqB] using hB, h⟩
  | o :: l, k, listed, a, w, hl, hB, h => by
    have h0 : ops[k]? = some o := by simpa using (hl 0).symm
    simp only [List.length_cons, Region.seqB, Bool.and_eq_true, decide_eq_true_eq] at hB
    refine ⟨fun h1 => (by rw [hB.1] at h1; cases h1), fun i hi => ?_⟩
    rw [hB.1] at hi
    have hik : i = k := by simpa using hi
    subst hik
    have hw : wpOpIn F m P ops Q' i (wpListIn F m P ops Q' l) a w := by unfold wpOpIn; simp only [h0]; exact h
    exact wpOpIn_mono (fun a' w' h' => wpAnyIn_of_seq l (i + 1) _ a' w' (fun j => by have := hl (j + 1); simpa [Nat.add_assoc, Nat.add_comm 1 j] using this) hB.2 h') hw
/-- The region: its first n operations so, the others behind them in the order of the text. -/
theorem wpIn_region_tailR {id : Nat} {Q : Exit → Act → World → Prop} {a : Act} {w : World} {l : List Oper} (n : Nat) (hm : P.follows .mixedOrders = true) (hnd : noDefer l.toArray = true) (hB : Region.lexTailB .any l.toArray n = true)
    (h : wpQuietIn F m P l.toArray (fun w' => ∃ p : Regrown, w' = grow (redrawn w p.d) p.os) (fun b => ∀ w', (∃ p : Regrown, w' = grow (redrawn w p.d) p.os) → wpListIn F m P l.toArray Q (l.drop n) b w') (l.take n) a) : (Code.region id l.toArray true).wpIn F m P Q a w := by
  simp only [Region.lexTailB, Bool.and_eq_true, decide_eq_true_eq] at hB
  obtain ⟨⟨⟨⟨hsel, hn⟩, hs⟩, hc⟩, hlex⟩ := hB
  have hn' : n < l.length := hn
  have htl : (l.take n).length = n := by rw [List.length_take]; omega
  have hsz : l.toArray.size - n = (l.drop n).length := by rw [List.length_drop]; rfl
  rw [hsz] at hlex
  have inv0 : HeadInv .any l.toArray n (Array.replicate l.toArray.size false) :=
    ⟨Array.size_replicate, fun j _ _ hj => (by rw [getD_replicate_false] at hj; exact Bool.noConfusion hj), fun t _ ht => getD_in (by rw [Array.size_replicate]; exact ht) (getD_replicate_false _ _)⟩
  have H := headQIn_lex (md := .any) hsel hs hc hn (l.take n) 0 _ a (fun j hj => by rw [htl] at hj; simp [hj]) (by omega) inv0 (by rw [htl]; exact hlex) h
  have H2 := any_of_headQIn (R := Q) (g := (l.drop n).length) hnd (fun s b w' hw' hL => wpAnyIn_of_seq (l.drop n) n s b w' (fun j => by simp [List.getElem?_drop]) hL.1 (hL.2 w' hw')) _ _ _ { w with drawn := w.drawn + 1 } ⟨⟨w.drawn + 1, #[]⟩, by rw [grow_empty]; rfl⟩ H
  refine wpIn_region_any hm ?_
  rw [htl, ← hsz, show n + (l.toArray.size - n) = l.toArray.size by have : l.toArray.size = l.length := rfl; omega] at H2
  exact H2
end
end Go.Proofs.Ytgbbgdjdomkohaa
