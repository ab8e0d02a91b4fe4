/- An item that came in: how it reads. -/
import Derived.Test.YtjelgoeamaejmaaGreatKAF
import Derived.Test.YtjelgoeamaejmaaGreatKAW
import Derived.Test.YtjelgoeamaejmaaGreatRows
import Derived.Lib.SmallJoins
import Derived.Deep.Slices
import Derived.StillTail
import Derived.Lib.QuietBelowIn
import Derived.OwnWalkIn
import Derived.Test.YtjelgoeamaejmaaGreatKAD
import Derived.Test.YtjelgoeamaejmaaGreatKAN
import Derived.Test.YtjelgoeamaejmaaGreatKAU
import Derived.Test.YtjelgoeamaejmaaGreatKAI
namespace Go.Proofs.YtjelgoeamaejmaaGreat
open Go.ChangeShapes Go.WideShapes Go.ChangeAt Go.RowKit

theorem AtL.of_items {w : World} {S : Nat → Prop} {b : Nat} (hS : S b) (hb : b < w.heap.size) : ∀ (l : List It) (o : Nat), (∀ i X, l[i]? = some X → At1 w S X b (o + i * 4)) → AtL w S l (some ⟨b, o, none⟩)
  | [], _, _ => AtL.nil _
  | t :: r, o, h => AtL.mk hS hb (by simpa using h 0 t rfl) (AtL.of_items hS hb r (o + 4) fun i X hX => by
    have := h (i + 1) X (by simpa using hX)
    rwa [show o + (i + 1) * 4 = o + 4 + i * 4 by omega] at this)
theorem itemsL_mem {p : Nat × It} : ∀ {l : List It} {d : Nat}, p ∈ itemsL l d → ∃ X ∈ l, p ∈ X.items d
  | [], d, h => by simp [itemsL] at h
  | t :: r, d, h => by
    rw [itemsL] at h
    rcases List.mem_append.1 h with h | h
    · exact ⟨t, by simp, h⟩
    · obtain ⟨X, hX, hp⟩ := itemsL_mem h
      exact ⟨X, by simp [hX], hp⟩
/-- An item's numbers and texts are as great as they can be, and it is no greater than N. -/
def okI (N : Nat) (t : It) : Prop := t.count ≤ N ∧ ∀ d p, p ∈ t.items d → 0 ≤ p.2.n ∧ p.2.n < 18446744073709551616 ∧ p.2.s.size ≤ N
theorem countL_bulk {H : Type} : ∀ (ts : List It) (ds : List (DataW H)), ts.length = ds.length → (∀ (i : Nat) (t : It) (d : DataW H), ts[i]? = some t → ds[i]? = some d → t.count ≤ Rows.uptoBulk d) → countL ts ≤ Rows.uptoBulkAll ds
  | [], [], _, _ => by simp [countL]
  | t :: ts, d :: ds, hl, h => by
    have h0 := h 0 t d rfl rfl
    have ih := countL_bulk ts ds (by simpa using hl) fun i t d h1 h2 => h (i + 1) t d (by simpa using h1) (by simpa using h2)
    simp only [countL, Rows.uptoBulkAll]
    omega
theorem bulk_mem {H : Type} {d : DataW H} : ∀ {ds : List (DataW H)}, d ∈ ds → Rows.uptoBulk d ≤ Rows.uptoBulkAll ds
  | x :: ds, h => by
    simp only [Rows.uptoBulkAll]
    rcases List.mem_cons.1 h with rfl | h
    · omega
    · have := bulk_mem h; omega
theorem bulk_one {H : Type} (l : Lit) : 1 ≤ Rows.uptoBulk (DataW.lit (H := H) l) := by cases l <;> simp [Rows.uptoBulk]
section
variable {H : Type} {enc : TypeId × Value → H} {W : World}
set_option maxRecDepth 100000 in
theorem trod_item : ∀ (f : Nat) (cs : List Value) (x : DataW H × List MemPlace), DataW.trod enc Tryz.prog W 0 (fun _ => true) true f 28 cs = some x →
    ∃ t A cap, cs = ic t A cap ∧ AtV W t A cap ∧ okI (Rows.uptoBulk x.1) t := by
  intro f
  induction f using Nat.strongRecOn with
  | _ f IH =>
    intro cs x h
    obtain ⟨xs, m, rfl, rfl, hl, hlen, hf⟩ := DataW.trod_struct Tryz.underlying28 h
    have hC : Tryz.prog.cellsOf 28 = 4 := by kernel_rfl
    rw [hC] at hl
    obtain ⟨c0, c1, c2, c3, rfl⟩ : ∃ c0 c1 c2 c3, cs = [c0, c1, c2, c3] := by
      match cs, hl with
      | [c0, c1, c2, c3], _ => exact ⟨c0, c1, c2, c3, rfl⟩
    obtain ⟨y0, y1, y2, y3, rfl⟩ : ∃ y0 y1 y2 y3, xs = [y0, y1, y2, y3] := by
      match xs, hlen with
      | [y0, y1, y2, y3], _ => exact ⟨y0, y1, y2, y3, rfl⟩
    have g0 := hf 0 _ rfl
    have g1 := hf 1 _ rfl
    have g2 := hf 2 _ rfl
    have g3 := hf 3 _ rfl
    have k0 : Tryz.prog.cellsOf 3 = 1 := by kernel_rfl
    have k1 : Tryz.prog.cellsOf 25 = 1 := by kernel_rfl
    have k2 : Tryz.prog.cellsOf 9 = 1 := by kernel_rfl
    have k3 : Tryz.prog.cellsOf 26 = 1 := by kernel_rfl
    simp [k0, k1, k2, k3] at g0 g1 g2 g3
    obtain ⟨k, e0, rfl, _⟩ := DataW.trod_int Tryz.underlying3 g0
    obtain ⟨n, e1, rfl, hn⟩ := DataW.trod_int Tryz.underlying25 g1
    obtain ⟨s, e2, rfl, _⟩ := DataW.trod_string Tryz.underlying9 g2
    injection e0 with e0
    injection e1 with e1
    injection e2 with e2
    subst e0 e1 e2
    have hn' : 0 ≤ n ∧ n < 18446744073709551616 := by
      simp [Lit.wf, IntKind.min, IntKind.max, IntKind.signed, IntKind.bits] at hn
      omega
    have hb : Rows.uptoBulk (DataW.agg (H := H) [.lit (.int .i64 k), .lit (.int .u64 n), .lit (.string s.data.toList), y3.1]) = s.size + Rows.uptoBulk y3.1 + 4 := by
      simp [Rows.uptoBulk, Rows.uptoBulkAll]
      omega
    suffices Hs : ∃ (l : List It) (A : Option Addr) (cap : Nat), c3 = .slice A l.length cap ∧ l.length ≤ cap ∧ (A = none → cap = 0) ∧ AtL W (fun _ => True) l A ∧ countL l + 1 ≤ Rows.uptoBulk y3.1 ∧
        ∀ d p, p ∈ itemsL l d → 0 ≤ p.2.n ∧ p.2.n < 18446744073709551616 ∧ p.2.s.size ≤ Rows.uptoBulk y3.1 by
      obtain ⟨l, A, cap, rfl, h1, h2, h3, h4, h5⟩ := Hs
      refine ⟨.mk k n s l, A, cap, rfl, ⟨h1, h2, h3⟩, ?_, fun d p hp => ?_⟩
      · simp only [List.map_cons, List.map_nil]
        rw [hb]
        simp only [It.count]
        omega
      · simp only [List.map_cons, List.map_nil]
        rw [hb]
        rw [It.items_eq] at hp
        rcases List.mem_cons.1 hp with rfl | hp
        · exact ⟨hn'.1, hn'.2, by show s.size ≤ _; omega⟩
        · have := h5 _ p hp
          omega
    rcases DataW.trod_slice Tryz.underlying26 g3 with ⟨hcs, hy⟩ | ⟨a, len, cap, elems, rest, q, hq, hcs, hy, _, hle, hm, hel, hall, _, _⟩
    · injection hcs with hcs
      subst hcs
      subst hy
      exact ⟨[], none, 0, rfl, by simp, fun _ => rfl, AtL.nil _, by simp [countL, Rows.uptoBulk], fun d p hp => by simp [itemsL] at hp⟩
    · injection hcs with hcs
      subst hcs
      rw [hC] at hall
      have each : ∀ i, i < len → ∃ z : It × Option Addr × Nat × (DataW H × List MemPlace), elems[i]? = some z.2.2.2 ∧ (∃ cs', W.cells? 0 (a.add (i * 4)) 4 = some cs' ∧ cs' = ic z.1 z.2.1 z.2.2.1) ∧ AtV W z.1 z.2.1 z.2.2.1 ∧ okI (Rows.uptoBulk z.2.2.2.1) z.1 := by
        intro i hi
        have := hall i hi
        rw [List.getElem?_eq_getElem (by omega)] at this
        obtain ⟨cs', h1, h2⟩ := Option.bind_eq_some_iff.1 this
        obtain ⟨t, A, c, h3, h4, h5⟩ := IH q (by omega) cs' _ h2
        exact ⟨(t, A, c, elems[i]), List.getElem?_eq_getElem (by omega), ⟨cs', h1, h3⟩, h4, h5⟩
      obtain ⟨z, hz⟩ := Go.Deep.choose_lt (α := It × Option Addr × Nat × (DataW H × List MemPlace)) each
      have hget : ∀ i X, ((List.range len).map fun i => (z i).1)[i]? = some X → i < len ∧ X = (z i).1 := fun i X hX => by
        rw [List.getElem?_map] at hX
        rcases Nat.lt_or_ge i len with h | h
        · simp [h] at hX
          exact ⟨h, hX.symm⟩
        · rw [List.getElem?_eq_none (by simpa using h)] at hX
          cases hX
      have hbs : Rows.uptoBulkAll (elems.map (·.1)) + 1 ≤ Rows.uptoBulk y3.1 := by
        rw [hy]
        simp only [Rows.uptoBulk]
        omega
      refine ⟨(List.range len).map fun i => (z i).1, some a, cap, by simp, by simpa using hle, (fun h => by cases h), ?_, ?_, ?_⟩
      · by_cases h0 : len = 0
        · subst h0; exact AtL.nil _
        · have cell : ∀ i, i < len → ∀ j u, (ic (z i).1 (z i).2.1 (z i).2.2.1)[j]? = some u → W.cell? (a.add (i * 4 + j)) = some u := fun i hi j u hu => by
            obtain ⟨_, ⟨cs', h1, h2⟩, _⟩ := hz i hi
            obtain ⟨_, hlen', hc⟩ := World.cells?_some h1
            have hj : j < 4 := by
              rcases Nat.lt_or_ge j (ic (z i).1 (z i).2.1 (z i).2.2.1).length with h | h
              · simpa [ic] using h
              · rw [List.getElem?_eq_none h] at hu; cases hu
            have := hc j hj
            rw [Go.Deep.add_add] at this
            rw [this, h2]
            exact hu
          have f0 := cell 0 (by omega) 0 _ rfl
          obtain ⟨b, off, spot⟩ := a
          have hspot : spot = none := by simpa [Addr.add] using World.cell?_spot f0
          subst hspot
          rw [Addr.add_mid] at f0
          refine AtL.of_items trivial (block_lt_of_cell f0) _ off fun i X hX => ?_
          obtain ⟨hi, rfl⟩ := hget i X hX
          obtain ⟨_, _, hv, _⟩ := hz i hi
          have e0 := cell i hi 0 _ rfl
          have e1 := cell i hi 1 _ rfl
          have e2 := cell i hi 2 _ rfl
          have e3 := cell i hi 3 _ rfl
          rw [Addr.add_mid] at e0 e1 e2 e3
          exact At1.mk _ _ e0 e1 e2 e3 hv.le hv.nil hv.at_
      · refine Nat.le_trans (Nat.succ_le_succ (countL_bulk _ (elems.map (·.1)) (by simp [hel]) fun i t d ht hd => ?_)) hbs
        obtain ⟨hi, rfl⟩ := hget i t ht
        obtain ⟨h1, _, _, h2⟩ := hz i hi
        rw [List.getElem?_map, h1] at hd
        injection hd with hd
        rw [← hd]
        exact h2.1
      · intro d p hp
        obtain ⟨X, hX, hp⟩ := itemsL_mem hp
        obtain ⟨i, hi, rfl⟩ := List.mem_map.1 hX
        rw [List.mem_range] at hi
        obtain ⟨h1, _, _, h2⟩ := hz i hi
        have h3 := h2.2 d p hp
        have h4 := bulk_mem (d := (z i).2.2.2.1) (ds := elems.map (·.1)) (List.mem_map.2 ⟨_, List.mem_of_getElem? h1, rfl⟩)
        exact ⟨h3.1, h3.2.1, by omega⟩
set_option maxRecDepth 100000 in
/-- An item among the arguments. -/
theorem open_item {b0 : Nat} {v : Value} {d : DataW H} {ps : List MemPlace} (hval : Value.okWide Tryz.prog W .any b0 28 v) (hd : DataW.Trod enc Tryz.prog W 0 (fun _ => true) true 28 v d ps) :
    ∃ t A cap, v = vI t A cap ∧ AtV W t A cap ∧ okI (Rows.uptoBulk d) t := by
  obtain ⟨cs, rfl, _⟩ := okWide_struct Tryz.underlying28 hval
  obtain ⟨fuel, hf⟩ := hd
  obtain ⟨t, A, cap, h1, h2, h3⟩ := trod_item fuel _ _ hf
  refine ⟨t, A, cap, ?_, h2, h3⟩
  have : cs = (ic t A cap).toArray := by
    apply Array.ext'
    simpa [Value.cells] using h1
  rw [this]
  rfl
end
end Go.Proofs.YtjelgoeamaejmaaGreat

/- A region that draws its order, inside a round of a loop over a function too: operations that only read, and calls that lay blocks of their own, walked once in the order of the text; others may stand behind them. -/
namespace Go.Proofs.YtjelgoeamaejmaaGreat
open Go Go.Sort

section
variable {F : Fence} {m : Nat} {P : Program} {ops : Array Oper} {md : Region.Mode} {C : World → Prop}

def isDefer : Op → Bool
  | .defer _ => true
  | _ => false
def noDefer (ops : Array Oper) : Bool := ops.all fun o => !isDefer o.op
theorem noDefer_spec (h : noDefer ops = true) {i : Nat} {o : Oper} (ho : ops[i]? = some o) : ∀ c, o.op ≠ .defer c := by
  intro c e
  unfold noDefer at h
  rw [Array.all_eq_true] at h
  obtain ⟨hi, he⟩ := Array.getElem?_eq_some_iff.1 ho
  have := h i hi
  rw [he, e] at this
  cases this
theorem wpIn_of_quietR {o : Oper} {a : Act} {K : Act → Prop} {K' : Act → World → Prop} {Q' : Exit → Act → World → Prop} {w : World} (hd : ∀ c, o.op ≠ .defer c) (hw : C w) (h : ∀ a w', C w' → K a → K' a w')
    (ha : o.askedIn F P a C) (hh : o.quietIn F m P a C K) : o.wpIn F m P a w K' Q' := by
  obtain ⟨v, h1, h2⟩ := hh
  have h3 := h1 w hw
  unfold Oper.quietAtIn at h3
  unfold Oper.wpIn
  refine ⟨ha w hw, ?_⟩
  rw [Oper.semAt_plain F _ _ hd]
  generalize (execOp a.eval o).run P w = r at *
  cases r with
  | ok x w' =>
    cases x <;> simp only [Oper.quietUponIn] at h3 <;> simp only [Oper.uponIn]
    case value u =>
      obtain ⟨e1, e2⟩ := h3
      rw [e1, e2]
      exact h _ _ hw h2
    case skip =>
      obtain ⟨e1, e2⟩ := h3
      rw [e1, ← e2]
      exact h _ _ hw h2
    case enter f args =>
      obtain ⟨e1, hd, hc⟩ := h3
      rw [e1]
      exact ⟨hd, hc.mono fun e w'' ⟨he, hw''⟩ => by subst he; exact h _ _ hw'' h2⟩
  | halt x w' => simp only [Oper.quietUponIn] at h3
theorem wpOpIn_of_qOpInR {i : Nat} {a : Act} {K : Act → Prop} {K' : Act → World → Prop} {Q' : Exit → Act → World → Prop} {w : World} (hnd : noDefer ops = true) (hC : C w) (h : ∀ a w', C w' → K a → K' a w')
    (hh : qOpIn F m P ops C i K a) : wpOpIn F m P ops Q' i K' a w := by
  unfold qOpIn at hh
  unfold wpOpIn
  split
  · rename_i ho; simp only [ho] at hh; exact h _ _ hC hh
  · rename_i o ho
    simp only [ho] at hh
    obtain ⟨ha, hh⟩ := hh
    split
    · rename_i hw; simp only [hw, if_true] at hh; exact wpIn_of_quietR (noDefer_spec hnd ho) hC h ha hh
    · rename_i hw; simp only [hw] at hh; exact ⟨ha w hC, h _ _ hC hh⟩
theorem wpAnyIn_of_quietR {Q : Act → Prop} {Q' : Exit → Act → World → Prop} (hnd : noDefer ops = true) (hQ : ∀ a w, C w → Q a → Q' .normal a w) : ∀ (fuel : Nat) (listed : Array Bool) (a : Act) (w : World), C w →
    wpAnyQIn F m P md ops C Q fuel listed a → wpAnyIn F m P md ops Q' fuel listed a w
  | 0, _, _, _, hw, h => ⟨h.1, hQ _ _ hw h.2⟩
  | fuel + 1, _, _, _, hw, h => ⟨fun h0 => hQ _ _ hw (h.1 h0), fun i hi => wpOpIn_of_qOpInR hnd hw (fun a' w' hw' => wpAnyIn_of_quietR hnd hQ fuel _ a' w' hw') (h.2 i hi)⟩
/-- The whole region only reads, its callees lay blocks of their own. -/
theorem wpIn_region_quietR {id : Nat} {Q : Exit → Act → World → Prop} {a : Act} {w : World} {l : List Oper} (hm : P.follows .mixedOrders = true) (hnd : noDefer l.toArray = true) (hB : Region.lexB .any l.toArray = true)
    (h : wpQuietIn F m P l.toArray (fun w' => ∃ p : Regrown, w' = grow (redrawn w p.d) p.os) (fun a' => ∀ w', (∃ p : Regrown, w' = grow (redrawn w p.d) p.os) → Q .normal a' w') l a) : (Code.region id l.toArray true).wpIn F m P Q a w := by
  simp only [Region.lexB, Bool.and_eq_true] at hB
  refine wpIn_region_any hm (wpAnyIn_of_quietR (C := fun w' => ∃ p : Regrown, w' = grow (redrawn w p.d) p.os) (Q := fun a' => ∀ w', (∃ p : Regrown, w' = grow (redrawn w p.d) p.os) → Q .normal a' w') hnd (fun _ w' hw' h => h w' hw') _ _ _ _ ⟨⟨w.drawn + 1, #[]⟩, by rw [grow_empty]; rfl⟩ ?_)
  have := wpAnyQIn_lex (F := F) (n := m) (C := fun w' => ∃ p : Regrown, w' = grow (redrawn w p.d) p.os) (md := .any) hB.1 l 0 (Array.replicate l.toArray.size false) a (by simp) (by simpa using hB.2) h
  simpa using this

/-- f operations come up, all ahead of number n, whatever their order; then L holds. -/
def headQIn (F : Fence) (m : Nat) (P : Program) (md : Region.Mode) (ops : Array Oper) (C : World → Prop) (n : Nat) (L : Array Bool → Act → Prop) : Nat → Array Bool → Act → Prop
  | 0, seen, a => L seen a
  | f + 1, seen, a => Region.ready md ops seen ≠ [] ∧ ∀ i, i ∈ Region.ready md ops seen → i < n ∧ qOpIn F m P ops C i (fun b => headQIn F m P md ops C n L f (seen.setIfInBounds i true) b) a
theorem any_of_headQIn {n g : Nat} {L : Array Bool → Act → Prop} {R : Exit → Act → World → Prop} (hnd : noDefer ops = true) (hL : ∀ seen a w, C w → L seen a → wpAnyIn F m P md ops R g seen a w) (f : Nat) :
    ∀ (seen : Array Bool) (a : Act) (w : World), C w → headQIn F m P md ops C n L f seen a → wpAnyIn F m P md ops R (f + g) seen a w := by
  induction f with
  | zero => intro seen a w hw h; rw [Nat.zero_add]; exact hL _ _ _ hw h
  | succ f ih =>
    intro seen a w hw h
    rw [Nat.add_right_comm]
    refine ⟨fun e => (h.1 e).elim, fun i hi => ?_⟩
    exact wpOpIn_of_qOpInR hnd hw (fun b w' hw' hb => ih _ b w' hw' hb) (h.2 i hi).2
theorem headQIn_first {n i : Nat} {oi : Oper} {v : Value} {L : Array Bool → Act → Prop} (hi : ops[i]? = some oi) (hsel : ∀ (j : Nat) (o : Oper) cs b, ops[j]? = some o → o.op ≠ .select cs b)
    (hs : Region.sinkB md ops n = true) (hc : Region.chainB md ops n = true) (hn : n < ops.size) (hin : i < n) (hend : ∀ seen a, L seen a → ∀ j, j ∈ Region.ready md ops seen → n ≤ j) (f : Nat) :
    ∀ (seen : Array Bool) (a : Act), HeadInv md ops n seen → (∀ j oj, ops[j]? = some oj → j ≠ i → seen.getD j true = false → (∀ e ∈ oj.after, Region.binds md e = true → e.on ≠ i) → oi.apart ops oj = true) →
      i ∈ Region.ready md ops seen → YieldsQuiet F m P ops C oi v a → headQIn F m P md ops C n L f (seen.setIfInBounds i true) (a.put oi.dst v) → headQIn F m P md ops C n L (f + 1) seen a := by
  induction f with
  | zero =>
    intro seen a inv _ hr hy H
    refine ⟨List.ne_nil_of_mem hr, fun j hj => ?_⟩
    have hjn : j < n := Nat.lt_of_not_le fun hle => tail_waits hs hc hn inv _ i rfl hin (mem_ready.1 hr).1 j hle hj
    refine ⟨hjn, ?_⟩
    rcases Decidable.em (j = i) with e | e
    · rw [e]; exact hy.qOpIn hi H
    · exact absurd (hend _ _ H j (ready_mono hj e)) (Nat.not_le_of_lt hjn)
  | succ f ih =>
    intro seen a inv hfree hr hy H
    have hun := (mem_ready.1 hr).1
    refine ⟨List.ne_nil_of_mem hr, fun j hj => ?_⟩
    have hjn : j < n := Nat.lt_of_not_le fun hle => tail_waits hs hc hn inv _ i rfl hin hun j hle hj
    refine ⟨hjn, ?_⟩
    rcases Decidable.em (j = i) with e | e
    · rw [e]; exact hy.qOpIn hi H
    obtain ⟨hju, oj, hoj, hall⟩ := mem_ready.1 hj
    have hno : ∀ x ∈ oj.after, Region.binds md x = true → x.on ≠ i := fun x hx hb he => by
      have := hall x hx hb
      rw [he, getD_both hun] at this
      exact Bool.noConfusion this
    have h1 := (H.2 j (ready_mono hj e)).2
    have h2 := qOpIn_put hoj (hfree j oj hoj e hju hno) (fun cs b => hsel i oi cs b hi) (fun cs b => hsel j oj cs b hoj) hy h1
    refine qOpIn_mono (fun b hb => ?_) h2
    refine ih _ b (inv.set hj hjn) (fun k ok hk hki hku hkn => ?_) (ready_mono hr (Ne.symm e)) hb.1 ?_
    · refine hfree k ok hk hki ?_ hkn
      rcases Decidable.em (j = k) with ejk | ejk
      · rw [← ejk]; exact hju
      · rwa [getD_set_ne true ejk] at hku
    · rw [Array.setIfInBounds_comm _ _ e]
      exact hb.2
theorem headQIn_lex {n g : Nat} {K : Act → Prop} (hsel : Region.noSelect ops = true) (hs : Region.sinkB md ops n = true) (hc : Region.chainB md ops n = true) (hn : n < ops.size) (l : List Oper) :
    ∀ (k : Nat) (seen : Array Bool) (a : Act), (∀ j, j < l.length → l[j]? = ops[k + j]?) → k + l.length = n → HeadInv md ops n seen → Region.lexHead md ops g l.length k seen = true → wpQuietIn F m P ops C K l a →
      headQIn F m P md ops C n (fun s b => Region.seqB md ops g n s = true ∧ K b) l.length seen a := by
  induction l with
  | nil =>
    intro k seen a _ hk _ hB h
    obtain rfl : k = n := hk
    exact ⟨hB, h⟩
  | cons o l ih =>
    intro k seen a hl hk inv hB h
    have h0 : ops[k]? = some o := (hl 0 (Nat.succ_pos _)).symm
    rw [List.length_cons] at hk
    simp only [List.length_cons, Region.lexHead, Bool.and_eq_true, List.contains_iff_mem] at hB
    have hkn : k < n := by omega
    have hq : qOpIn F m P ops C k (wpQuietIn F m P ops C K l) a := by unfold qOpIn; rw [h0]; exact h
    obtain ⟨v, hy, hK⟩ := yieldsQuiet_of_qOpIn h0 hq
    refine headQIn_first h0 (Region.noSelect_spec hsel) hs hc hn hkn (fun s b hL => seqB_ready hL.1) l.length seen a inv (Region.free_spec h0 hB.1.2) hB.1.1 hy ?_
    refine ih (k + 1) _ _ (fun j hj => ?_) (by omega) (inv.set hB.1.1 hkn) hB.2 hK
    have := hl (j + 1) (by simpa using hj)
    rw [show k + 1 + j = k + (j + 1) by omega, ← this]
    rfl
theorem wpAnyIn_of_seq {Q' : Exit → Act → World → Prop} : ∀ (l : List Oper) (k : Nat) (listed : Array Bool) (a : Act) (w : World), (∀ j, l[j]? = ops[k + j]?) →
    Region.seqB md ops l.length k listed = true → wpListIn F m P ops Q' l a w → wpAnyIn F m P md ops Q' l.length listed a w
  | [], _, _, _, _, _, hB, h => ⟨by simpa [Region.seqB] using hB, h⟩
  | o :: l, k, listed, a, w, hl, hB, h => by
    have h0 : ops[k]? = some o := by simpa using (hl 0).symm
    simp only [List.length_cons, Region.seqB, Bool.and_eq_true, decide_eq_true_eq] at hB
    refine ⟨fun h1 => (by rw [hB.1] at h1; cases h1), fun i hi => ?_⟩
    rw [hB.1] at hi
    have hik : i = k := by simpa using hi
    subst hik
    have hw : wpOpIn F m P ops Q' i (wpListIn F m P ops Q' l) a w := by unfold wpOpIn; simp only [h0]; exact h
    exact wpOpIn_mono (fun a' w' h' => wpAnyIn_of_seq l (i + 1) _ a' w' (fun j => by have := hl (j + 1); simpa [Nat.add_assoc, Nat.add_comm 1 j] using this) hB.2 h') hw
/-- The region: its first n operations so, the others behind them in the order of the text. -/
theorem wpIn_region_tailR {id : Nat} {Q : Exit → Act → World → Prop} {a : Act} {w : World} {l : List Oper} (n : Nat) (hm : P.follows .mixedOrders = true) (hnd : noDefer l.toArray = true) (hB : Region.lexTailB .any l.toArray n = true)
    (h : wpQuietIn F m P l.toArray (fun w' => ∃ p : Regrown, w' = grow (redrawn w p.d) p.os) (fun b => ∀ w', (∃ p : Regrown, w' = grow (redrawn w p.d) p.os) → wpListIn F m P l.toArray Q (l.drop n) b w') (l.take n) a) : (Code.region id l.toArray true).wpIn F m P Q a w := by
  simp only [Region.lexTailB, Bool.and_eq_true, decide_eq_true_eq] at hB
  obtain ⟨⟨⟨⟨hsel, hn⟩, hs⟩, hc⟩, hlex⟩ := hB
  have hn' : n < l.length := hn
  have htl : (l.take n).length = n := by rw [List.length_take]; omega
  have hsz : l.toArray.size - n = (l.drop n).length := by rw [List.length_drop]; rfl
  rw [hsz] at hlex
  have inv0 : HeadInv .any l.toArray n (Array.replicate l.toArray.size false) :=
    ⟨Array.size_replicate, fun j _ _ hj => (by rw [getD_replicate_false] at hj; exact Bool.noConfusion hj), fun t _ ht => getD_in (by rw [Array.size_replicate]; exact ht) (getD_replicate_false _ _)⟩
  have H := headQIn_lex (md := .any) hsel hs hc hn (l.take n) 0 _ a (fun j hj => by rw [htl] at hj; simp [hj]) (by omega) inv0 (by rw [htl]; exact hlex) h
  have H2 := any_of_headQIn (R := Q) (g := (l.drop n).length) hnd (fun s b w' hw' hL => wpAnyIn_of_seq (l.drop n) n s b w' (fun j => by simp [List.getElem?_drop]) hL.1 (hL.2 w' hw')) _ _ _ { w with drawn := w.drawn + 1 } ⟨⟨w.drawn + 1, #[]⟩, by rw [grow_empty]; rfl⟩ H
  refine wpIn_region_any hm ?_
  rw [htl, ← hsz, show n + (l.toArray.size - n) = l.toArray.size by have : l.toArray.size = l.length := rfl; omega] at H2
  exact H2
end
end Go.Proofs.YtjelgoeamaejmaaGreat

/- Package item: Check, whole; what the law ItemTells asks of both sides. -/
namespace Go.Proofs.YtjelgoeamaejmaaGreat
open Go.RowKit Go.Sort

theorem okI_item {N : Nat} {x : It} (hx : okI N x) {d : Nat} {t : It} (ht : (d, t) ∈ x.items 1) : 0 ≤ t.n ∧ t.n < 18446744073709551616 ∧ t.s.size ≤ N ∧ t.count ≤ N :=
  ⟨(hx.2 1 _ ht).1, (hx.2 1 _ ht).2.1, (hx.2 1 _ ht).2.2, Nat.le_trans (It.items_count x 1 _ ht) hx.1⟩
theorem item_CheckW (x : It) (A : Option Addr) (cap n : Nat) (w : World) (hx : okI 1048576 x) (hn : n ≤ w.heap.size) (h : AtB w n x A cap) :
    Calls Tryz.prog 20 #[vI x A cap] w fun e w' => e = .returned (.int .i64 (checkR wrongI x)) ∧ Below w.heap.size w w' := by
  have hc := hx.1
  refine item_Check x A cap n w wrongI (by omega) hn h fun d t A cap W ht hnW hat => ?_
  obtain ⟨h1, h2, h3, h4⟩ := okI_item hx ht
  exact item_checkOne t A cap n W h1 h2 (by omega) hnW hat fun _ W2 hn2 hat2 => item_twice t.l A cap n W2 (by rw [It.count_eq] at h4; omega) hn2 hat2.rl
theorem ref_CheckW (x : It) (A : Option Addr) (cap n : Nat) (w : World) (hx : okI 1048576 x) (hn : n ≤ w.heap.size) (h : AtB w n x A cap) :
    Calls Tryz.prog 12 #[vI x A cap] w fun e w' => e = .returned (.int .i64 (checkR wrongI x)) ∧ Below w.heap.size w w' := by
  have hc := hx.1
  refine ref_Check x A cap n w (by omega) hn h fun t ht => ?_
  obtain ⟨⟨d, t'⟩, hp, rfl⟩ := List.mem_map.1 ht
  obtain ⟨h1, h2, h3, h4⟩ := okI_item hx hp
  exact ⟨h1, h2, by show t'.s.size ≤ _; omega, by show t'.count ≤ _; omega⟩
/-- Few items stand not deep in all. -/
theorem deepSum_few {x : It} (h : x.count ≤ 200) : deepSum x ≤ 2147483647 := by
  have h1 : ∀ (l : List Nat) (B : Nat), (∀ a ∈ l, a ≤ B) → l.sum ≤ l.length * B := by
    intro l B hl
    induction l with
    | nil => simp
    | cons a r ih =>
      have h2 := ih fun b hb => hl b (List.mem_cons_of_mem _ hb)
      have h3 := hl a (List.mem_cons_self ..)
      rw [List.sum_cons, List.length_cons, Nat.add_mul]
      omega
  have h2 := h1 ((x.items 1).map (·.1)) 200 fun a ha => by
    obtain ⟨p, hp, rfl⟩ := List.mem_map.1 ha
    have := It.items_deep x 1 p hp
    omega
  rw [List.length_map, It.length_items] at h2
  have h3 : x.count * 200 ≤ 200 * 200 := Nat.mul_le_mul_right 200 h
  unfold deepSum
  omega
theorem not_great {x : It} (h : greatB x = false) : x.count ≤ 200 := by
  unfold greatB at h
  rw [Bool.or_eq_false_iff] at h
  have := of_decide_eq_false h.2
  omega
/-- What Items hands back, as it is read. -/
structure ItemsAt (x : It) (n : Nat) (w : World) (g1 g2 : Nat) : Prop where
  l1 : g1 < w.heap.size
  l2 : g2 < w.heap.size
  at_ : ∀ (k d : Nat) (X : It), (x.items 1)[k]? = some (d, X) → w.cell? ⟨g2, k, none⟩ = some (.int .i64 (d : Int)) ∧ ∃ A c, w.cell? ⟨g1, k * 4, none⟩ = some (.int .i64 X.k) ∧ w.cell? ⟨g1, k * 4 + 1, none⟩ = some (.int .u64 X.n) ∧ w.cell? ⟨g1, k * 4 + 2, none⟩ = some (.string X.s) ∧
    w.cell? ⟨g1, k * 4 + 3, none⟩ = some (.slice A X.l.length c) ∧ AtB w n X A c
theorem ItemsAt.on {x : It} {n g1 g2 : Nat} {w w' : World} (h : ItemsAt x n w g1 g2) (hb : Below w.heap.size w w') (hn : n ≤ w.heap.size) : ItemsAt x n w' g1 g2 := by
  refine ⟨Nat.lt_of_lt_of_le h.l1 hb.size, Nat.lt_of_lt_of_le h.l2 hb.size, fun k d X hk => ?_⟩
  obtain ⟨h0, A, c, c0, c1, c2, c3, ha⟩ := h.at_ k d X hk
  have e1 := hb.block g1 h.l1
  have e2 := hb.block g2 h.l2
  exact ⟨cell_kept' e2 h0, A, c, cell_kept' e1 c0, cell_kept' e1 c1, cell_kept' e1 c2, cell_kept' e1 c3, ha.keep (hb.mono hn)⟩
theorem items_at {x : It} {n B : Nat} {w : World} {v1 v2 : Value} (h : ItemsPost x n 1 B w v1 v2) : ∃ g1 c1 g2 c2, v1 = .slice (some ⟨g1, 0, none⟩) x.count c1 ∧ v2 = .slice (some ⟨g2, 0, none⟩) x.count c2 ∧ ItemsAt x n w g1 g2 := by
  obtain ⟨o1, o2⟩ := h
  have hl1 := length_its x 1
  have hl2 := length_deps x 1
  obtain ⟨g1, c1, rfl, _, _, _, hg1⟩ := o1.form (by rw [hl1]; exact count_pos x)
  obtain ⟨g2, c2, rfl, _, _, _⟩ := o2.head (by rw [hl2]; exact count_pos x)
  have hg2 := o2.lt (by rw [hl2]; exact count_pos x)
  refine ⟨g1, c1, g2, c2, by rw [hl1], by rw [hl2], hg1, hg2, fun k d X hk => ?_⟩
  have hlt : k < x.count := by
    rw [← It.length_items x 1]
    rcases Nat.lt_or_ge k (x.items 1).length with h | h
    · exact h
    · rw [List.getElem?_eq_none h] at hk; cases hk
  constructor
  · have h0 := (o2.at (j := k) (by rw [hl2]; exact hlt)).1
    have e : (deps x 1).getD k 0 = (d : Int) := by rw [deps, List.getD_eq_getElem?_getD, List.getElem?_map, hk]; rfl
    rw [e] at h0
    exact h0
  · obtain ⟨X', A, c, hX, _, c0, c1, c2, c3, ha⟩ := o1.item (i := k) (by rw [hl1]; exact hlt)
    have : (its x 1)[k]? = some X := by rw [its, List.getElem?_map, hk]; rfl
    rw [this] at hX
    cases hX
    exact ⟨A, c, c0, c1, c2, c3, ha⟩
/-- What the law's loops lean on: they turn none of it. -/
structure Cx (x : It) (few : Int) (g L Bk g1 c1 g2 c2 : Nat) (A' : Option Addr) (c' : Nat) (W : World) : Prop where
  few : W.cell? ⟨g + 1, 0, none⟩ = some (.int .u8 few)
  res : W.cell? ⟨g + 2, 0, none⟩ = some (.bool false)
  resf : W.frozen? ⟨g + 2, 0, none⟩ = false
  l : W.cell? ⟨L, 0, none⟩ = some (.slice (some ⟨g1, 0, none⟩) x.count c1)
  d : W.cell? ⟨L + 1, 0, none⟩ = some (.slice (some ⟨g2, 0, none⟩) x.count c2)
  it : ItemsAt x g W g1 g2
  bk : Blk W Bk 28 #[.int .i64 x.k, .int .u64 x.n, .string x.s, .slice A' x.l.length c']
  at_ : AtB W Bk x A' c'
  gl : g ≤ L
  lb : L + 2 ≤ Bk
theorem Cx.on {x : It} {few : Int} {g L Bk g1 c1 g2 c2 : Nat} {A' : Option Addr} {c' : Nat} {W W' : World} (h : Cx x few g L Bk g1 c1 g2 c2 A' c' W) (hb : Below W.heap.size W W') : Cx x few g L Bk g1 c1 g2 c2 A' c' W' := by
  have hl := h.bk.lt
  have hg : g ≤ W.heap.size := by have := h.gl; have := h.lb; omega
  exact ⟨(hb.cell (p := ⟨g + 1, 0, none⟩) (block_lt_of_cell h.few)).trans h.few, (hb.cell (p := ⟨g + 2, 0, none⟩) (block_lt_of_cell h.res)).trans h.res, (hb.frozen (p := ⟨g + 2, 0, none⟩) (block_lt_of_cell h.res)).trans h.resf,
    (hb.cell (p := ⟨L, 0, none⟩) (block_lt_of_cell h.l)).trans h.l, (hb.cell (p := ⟨L + 1, 0, none⟩) (block_lt_of_cell h.d)).trans h.d, h.it.on hb hg, h.bk.on hb, h.at_.keep (hb.mono (Nat.le_of_lt hl)), h.gl, h.lb⟩
/-- The told one is the next of the list. -/
theorem told_next {x : It} {pre : List Told} {z : Told} (h : (pre ++ [z]).map toldOf <+: x.items 1) : (x.items 1)[pre.length]? = some (z.d, z.t) := by
  obtain ⟨r, hr⟩ := h
  rw [← hr, List.map_append, List.append_assoc, List.getElem?_append_right (by simp)]
  simp [toldOf]
theorem told_lt {x : It} {pre : List Told} {z : Told} (h : (pre ++ [z]).map toldOf <+: x.items 1) : pre.length < x.count := by
  have := h.length_le
  rw [List.length_map, List.length_append, It.length_items] at this
  exact this
theorem told_all {x : It} {xs : List Told} (h : xs.map toldOf = x.items 1) : xs.length = x.count := by
  have := congrArg List.length h
  rwa [List.length_map, It.length_items] at this
end Go.Proofs.YtjelgoeamaejmaaGreat

/- Package schema: valued, ranged, formed. -/
namespace Go.Proofs.YtjelgoeamaejmaaGreat
open Go.RowKit

/-- What is wrong of an item. -/
noncomputable def chI : It → Int := checkR wrongI
set_option maxRecDepth 100000 in
set_option maxHeartbeats 1000000 in
theorem sch_valued (v : It) (A : Option Addr) (cap n : Nat) (w : World) (hv : okI 1048576 v) (hn : n ≤ w.heap.size) (h : AtB w n v A cap) :
    Calls Tryz.prog 66 #[vI v A cap] w fun e w' => e = .returned (.bool (valuedN chI v)) ∧ Below w.heap.size w w' := by
  obtain ⟨w1, hw1, b1, S⟩ := iblk1 w 28 #[.int .i64 v.k, .int .u64 v.n, .string v.s, .slice A v.l.length cap]
  obtain ⟨p0, p1, p2, p3, -⟩ := iblk b1
  have HC := Lib.hid (item_CheckW v A cap n w1 hv (Nat.le_trans hn S.size) (h.keep (S.mono hn)))
  have HR : Hid (∀ r, r = ((decide (v.k = 0) || decide (v.k = 1) || decide (v.k = 2) || decide (v.k = 3) || decide (v.k = 7)) && decide (chI v = 0)) → r = valuedN chI v) := Lib.hid fun r h => h
  have HS := Lib.hid S
  clear S h hn hv b1
  change Hid (Calls _ _ _ _ fun e w' => e = .returned (.int .i64 (chI v)) ∧ _) at HC
  generalize valuedN chI v = res at *
  generalize chI v = c at *
  simp only [vI] at HC ⊢
  go_enter Tryz.func66, Tryz.ntmps66
  go_wp2_with (first
        | (go_at_call 20; refine HC.out.mono ?_; rintro e w2 ⟨rfl, hb2⟩; have HB2 := Lib.hid hb2; clear hb2))
  all_goals go_ret
  all_goals first
    | exact ⟨by rw [← HR.out _ rfl]; clear HR HC HS HB2 p0 p1 p2 p3 hw1; simp_all <;> first | rfl | omega, HS.out.trans (HB2.out.mono HS.out.size)⟩
    | exact ⟨by rw [← HR.out _ rfl]; clear HR HC HS p0 p1 p2 p3 hw1; simp_all <;> first | rfl | omega, HS.out⟩

set_option maxRecDepth 100000 in
set_option maxHeartbeats 1000000 in
theorem sch_ranged (x : Nd) (p : Pl) (w : World) :
    Calls Tryz.prog 42 #[vN x p] w fun e w' => e = .returned (.bool (rangedN x)) ∧ Below w.heap.size w w' := by
  have b1 := Blk.fresh w 47 (nc x p)
  have S := below_alloc w (.cells (nc x p) 47)
  obtain ⟨w1, hw1⟩ : ∃ w1, w.alloc (.cells (nc x p) 47) = w1 := ⟨_, rfl⟩
  rw [hw1] at b1 S
  unfold nc at b1 hw1
  obtain ⟨p0, p1, p2, p3, p4, p5, p6, p7, p8⟩ := nblk b1
  have HS := Lib.hid S
  have HR : Hid (∀ r, r = (if x.k = 2 ∨ x.k = 3 ∨ x.k = 6 then decide (0 ≤ x.lo) && decide (x.lo ≤ x.hi) else if x.k = 1 then decide (x.lo ≤ x.hi) else if x.k = 9 then decide (0 ≤ x.lo) else true) → r = rangedN x) := Lib.hid fun r h => h
  generalize rangedN x = res at *
  clear S b1
  simp only [vN]
  go_enter Tryz.func42, Tryz.ntmps42
  go_wp2_with fail
  all_goals go_ret
  all_goals exact ⟨by rw [← HR.out _ rfl]; clear HR HS p0 p1 p2 p3 p4 p5 p6 p7 p8 hw1; simp_all <;> first | rfl | omega, HS.out⟩
end Go.Proofs.YtjelgoeamaejmaaGreat
