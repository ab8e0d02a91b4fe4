/- 'for .. := range f': a law for iterators that keep a state of their own in memory. -/
import Derived.RangeFuncNested
import Derived.RangeFuncBound
import Derived.RangeFuncCalls
import Derived.RangeFuncLeaves
import Derived.Shelf.Abstract
import Derived.Shelf.RegionOpen
import Derived.OwnWalkIn
import Derived.TacticsInMore
import Derived.LoopNIn
import Derived.LoopIn
import Derived.Sort.LoopGhostIn
import Derived.Test.YtmihoeholcaokaaKAA
namespace Go.Proofs.Ytmihoeholcaokaa
open Go.RowKit

theorem is_appendIn {F : Fence} {n : Nat} {P : Program} {ops : Array Oper} {rest : List Oper} {o : Oper} {a : Act} {w : World} {Q : Exit → Act → World → Prop} (t : TypeId) {s x : Operand} (_ho : o.op = .call { callee := .builtin .append, args := #[s, x], argTypes := #[t, t] }) (h : wpListIn F n P ops Q (o :: rest) a w) : wpListIn F n P ops Q (o :: rest) a w := h
/-- append, its run known, inside a fence. -/
theorem wpListIn_append_run {F : Fence} {n : Nat} {P : Program} {ops : Array Oper} {rest : List Oper} {o : Oper} {a : Act} {w w' : World} {Q : Exit → Act → World → Prop} (hgd : o.guard = none) {s x : Operand} {t : TypeId}
    (ho : o.op = .call { callee := .builtin .append, args := #[s, x], argTypes := #[t, t] }) {v y v' : Value}
    (hr : (Builtin.append_ #[t, t] o.type #[v, y]).run P w = .ok v' w') (hs : a.eval s = v) (hx : a.eval x = y) (h : wpListIn F n P ops Q rest (a.put o.dst v') w') : wpListIn F n P ops Q (o :: rest) a w := by
  refine wpListIn_plain hgd fun K hK => ?_
  unfold Oper.wpIn
  refine ⟨by simp [Oper.about, ho, resolve, Target.leads, Sem.run_pure], ?_⟩
  rw [Oper.semAt_plain F _ _ (by rw [ho]; intro c hc'; cases hc')]
  simp only [execOp, ho, resolve, invoke, builtin, Sem.run_bind, Sem.run_pure, Result.andThen_ok, List.map_toArray, List.map_cons, List.map_nil, hs, hx, hr]
  exact hK _ _ h

/-- From W to W' nothing below block n has turned, and nothing that lay from block B on. -/
structure Rs (n B : Nat) (W W' : World) : Prop where
  low : Below n W W'
  high : ∀ b, B ≤ b → b < W.heap.size → W'.heap[b]? = W.heap[b]?
section
variable {n B B' b o : Nat} {W W' W'' : World}
theorem Rs.refl (n B : Nat) (W : World) : Rs n B W W := ⟨Below.refl _ _, fun _ _ _ => rfl⟩
theorem Rs.trans (h : Rs n B W W') (k : Rs n B W' W'') : Rs n B W W'' := ⟨h.low.trans k.low, fun b hb hl => (k.high b hb (Nat.lt_of_lt_of_le hl h.low.size)).trans (h.high b hb hl)⟩
theorem Rs.of_below (h : Below W.heap.size W W') (hn : n ≤ W.heap.size) (B : Nat) : Rs n B W W' := ⟨h.mono hn, fun b _ hl => h.block b hl⟩
theorem Rs.more (h : Rs n B W W') (hB : B ≤ B') : Rs n B' W W' := ⟨h.low, fun b hb hl => h.high b (Nat.le_trans hB hb) hl⟩
theorem Rs.set (W : World) (v : Value) (hn : n ≤ b) (hB : b < B) : Rs n B W (W.setCell ⟨b, o, none⟩ v) := ⟨(Below.refl n W).setCell (p := ⟨b, o, none⟩) hn v, fun i hi _ => Below.heap_setCell W ⟨b, o, none⟩ v i (by show i ≠ b; omega)⟩
theorem Rs.put {l : Nat} (W : World) (ob : Obj) (hn : n ≤ l) (hl : l < W.heap.size) (hB : l < B) : Rs n B W (W.putObj l ob) :=
  ⟨(Below.refl n W).grown (grownBy_putObj' W l ob) (by omega) (fun k e => by cases e; omega), fun i hi _ => World.putObj_heap_other (by omega)⟩
end
/-- What an iterator does, whatever the loop: S, if all rounds go on; Sp, if one of them doesn't. J, Jx: what the loop knows between two rounds, behind the last one; they speak of what lay when the iterator was called. G: what holds of all that has been told, the latest too; Ok: how the latest lies in memory when it is told. -/
def SeqG {α : Type} (P : Program) (g : Nat) (lb : Array Value) (encs : α → Array Value) (G : List α → Prop) (Ok : Nat → α → World → Prop) (n : Nat) (S Sp : List α → Prop) (N : Nat) (w : World) : Prop :=
  ∀ (l : Nat) (J Jx : List α → World → Prop) (W : World), Below w.heap.size w W → (∀ s W1 W2, J s W1 → Below W.heap.size W1 W2 → J s W2) → (∀ s W1 W2, Jx s W1 → Below W.heap.size W1 W2 → Jx s W2) →
    (∀ pre x W1, J pre W1 → G (pre ++ [x]) → Ok W.heap.size x W1 → W.heap.size ≤ W1.heap.size → pre.length < N → YieldAt Fence.wide 0 P l (encs x) W1 fun e W' =>
      (e = .returned (.bool true) ∧ J (pre ++ [x]) W' ∧ Rs n W.heap.size W1 W') ∨ (e = .returned (.bool false) ∧ Jx (pre ++ [x]) W' ∧ Rs n W.heap.size W1 W')) →
    J [] W →
    CallsIn Fence.wide 0 P g (#[.func (.yield l) #[] #[]] ++ lb) W fun e W' => (∃ v, e = .returned v) ∧ ((∃ xs, S xs ∧ J xs W') ∨ (∃ pre, Sp pre ∧ Jx pre W'))
/-- The same, of an iterator that wants K to hold between two rounds. -/
def SeqK {α : Type} (K : World → Prop) (P : Program) (g : Nat) (lb : Array Value) (encs : α → Array Value) (G : List α → Prop) (Ok : Nat → α → World → Prop) (n : Nat) (S Sp : List α → Prop) (N : Nat) (w : World) : Prop :=
  ∀ (l : Nat) (J Jx : List α → World → Prop) (W : World), Below w.heap.size w W → (∀ s W1 W2, J s W1 → Below W.heap.size W1 W2 → J s W2) → (∀ s W1 W2, Jx s W1 → Below W.heap.size W1 W2 → Jx s W2) → (∀ s W1, J s W1 → K W1) →
    (∀ pre x W1, J pre W1 → G (pre ++ [x]) → Ok W.heap.size x W1 → W.heap.size ≤ W1.heap.size → pre.length < N → YieldAt Fence.wide 0 P l (encs x) W1 fun e W' =>
      (e = .returned (.bool true) ∧ J (pre ++ [x]) W' ∧ Rs n W.heap.size W1 W') ∨ (e = .returned (.bool false) ∧ Jx (pre ++ [x]) W' ∧ Rs n W.heap.size W1 W')) →
    J [] W →
    CallsIn Fence.wide 0 P g (#[.func (.yield l) #[] #[]] ++ lb) W fun e W' => (∃ v, e = .returned v) ∧ ((∃ xs, S xs ∧ J xs W') ∨ (∃ pre, Sp pre ∧ Jx pre W'))
theorem SeqG.k {α : Type} {P : Program} {g : Nat} {lb : Array Value} {encs : α → Array Value} {G : List α → Prop} {Ok : Nat → α → World → Prop} {n : Nat} {S Sp : List α → Prop} {N : Nat} {w : World} (h : SeqG P g lb encs G Ok n S Sp N w) : SeqK (fun _ => True) P g lb encs G Ok n S Sp N w :=
  fun l J Jx W hW hJ hJx _ hY h0 => h l J Jx W hW hJ hJx hY h0
def Seq {α : Type} (P : Program) (g : Nat) (lb : Array Value) (encs : α → Array Value) (n : Nat) (S Sp : List α → Prop) (N : Nat) (w : World) : Prop :=
  SeqG P g lb encs (fun _ => True) (fun _ _ _ => True) n S Sp N w
/-- How a round's body may end. -/
def rPost {α : Type} (n B : Nat) (I : List α → World → Prop) (Ix : Code → List α → World → Prop) (xs : List α) (W : World) : Exit → Act → World → Prop
  | .normal, _, W' => Rs n B W W' ∧ I xs W'
  | .ret, _, W' => Rs n B W W' ∧ Ix .ret xs W'
  | .exit id, _, W' => Rs n B W W' ∧ Ix (.exit id) xs W'
  | .goto t, _, W' => Rs n B W W' ∧ Ix (.goto t) xs W'
  | .panic _, _, _ => False
  | .outgrown, _, _ => False

theorem wp_rangeK {α : Type} {P : Program} {g : Operand} {ps : Array Tmp} {assign body : Code} {Q : Exit → Act → World → Prop} {a : Act} {w : World}
    {gf : Nat} {lb : Array Value} (hg : a.eval g = .func (.func gf) #[] lb) (eg : ∀ args w, (callFunc gf args).run P w = .ok (.enter gf args) w)
    {encs : α → Array Value} {G : List α → Prop} {Ok : Nat → α → World → Prop} {n : Nat} {S Sp : List α → Prop} {N : Nat} {w0 : World} {Kp : World → Prop} (hseq : SeqK Kp P gf lb encs G Ok n S Sp N w0) (hb0 : Below w0.heap.size w0 w) (hn : n ≤ w.heap.size) (hps : ∀ x, (encs x).size = ps.size)
    (I : List α → World → Prop) (Ix : Code → List α → World → Prop) (hI : ∀ s W1 W2, I s W1 → Below w.heap.size W1 W2 → I s W2) (hIx : ∀ c s W1 W2, Ix c s W1 → Below w.heap.size W1 W2 → Ix c s W2) (hKp : ∀ s W1, I s W1 → Kp W1) (h0 : I [] w)
    (Ax : α → Act → World → Prop) (hAx : ∀ x a' W o, Ax x a' W → Ax x a' (W.putObj (w.heap.size + 1) o))
    (hassign : ∀ (l : Nat) (pre : List α) (x : α) (W : World) (K : Act → World → Prop), I pre W → G (pre ++ [x]) → Ok (w.heap.size + 2) x W → w.heap.size + 2 ≤ W.heap.size → pre.length < N → (∀ a' W', Rs n w.heap.size W W' → I pre W' → Ax x a' W' → K a' W') →
      assign.wpIn (Fence.wide.inRound l) 0 P (Exit.then K (fun _ _ _ => False)) { tmps := (ps.zip (encs x)).foldl (fun t (p, v) => t.setIfInBounds p v) a.tmps, defers := [] } W)
    (hbody : ∀ (l : Nat) (pre : List α) (x : α) (a' : Act) (W : World), I pre W → G (pre ++ [x]) → Ax x a' W → w.heap.size + 2 ≤ W.heap.size → pre.length < N → body.wpIn (Fence.wide.inRound l) 0 P (rPost n w.heap.size I Ix (pre ++ [x]) W) a' W)
    (hdone : ∀ (xs : List α) (W : World), w.heap.size + 2 ≤ W.heap.size → S xs → I xs W → W.heap[w.heap.size]? = some (.deferred (some [])) → Q .normal { a with defers := { target := .collected w.heap.size, args := #[] } :: a.defers } W)
    (hstop : ∀ (c : Code) (pre : List α) (W : World), w.heap.size + 2 ≤ W.heap.size → Sp pre → Ix c pre W → W.heap[w.heap.size]? = some (.deferred (some [])) → c.wpIn Fence.wide 0 P Q { a with defers := { target := .collected w.heap.size, args := #[] } :: a.defers } W) :
    (Code.rangeFunc g ps assign body).wpIn Fence.wide 0 P Q a w := by
  refine wpIn_rangeFunc fun fn _ => ?_
  obtain ⟨D, hD⟩ : ∃ D, w.heap.size = D := ⟨_, rfl⟩
  rw [hD] at hn hI hIx hAx hassign hbody hdone hstop
  obtain ⟨lp, hlp⟩ : ∃ lp : LoopState → Option Code → Loop, lp = fun st pe => { state := st, pending := pe, fn, tmps := a.tmps, params := ps, assign, body, defers := D } := ⟨_, rfl⟩
  have hsz : ((w.alloc (.deferred (some []))).alloc (.loop (lp .ready none))).heap.size = D + 2 := by simp [hD]
  have hL1 : ((w.alloc (.deferred (some []))).alloc (.loop (lp .ready none))).heap[D + 1]? = some (.loop (lp .ready none)) := by
    have := World.alloc_heap_new (w.alloc (.deferred (some []))) (.loop (lp .ready none))
    rwa [World.size_alloc, hD] at this
  have hK1 : ((w.alloc (.deferred (some []))).alloc (.loop (lp .ready none))).heap[D]? = some (.deferred (some [])) := by
    have := World.alloc_heap_new w (.deferred (some []))
    rw [hD] at this
    exact (Below.heap_alloc _ _ _ (by simp [hD])).trans this
  have hB1 : Below D w ((w.alloc (.deferred (some []))).alloc (.loop (lp .ready none))) := ((Below.refl D w).alloc (by omega) _).alloc (by simp [hD]) _
  obtain ⟨W0, hW0⟩ : ∃ W0, (w.alloc (.deferred (some []))).alloc (.loop (lp .ready none)) = W0 := ⟨_, rfl⟩
  rw [hW0] at hsz hL1 hK1 hB1
  have hbW : Below w0.heap.size w0 W0 := hb0.trans (hB1.mono (by have := hb0.size; omega))
  refine ⟨D + 1, [{ target := .collected D, args := #[] }], W0, { target := .fn (.func gf) lb, args := #[.func (.yield (D + 1)) #[] #[]] }, W0, gf, #[.func (.yield (D + 1)) #[] #[]] ++ lb, W0, ?_, ?_, fun _ _ => trivial, ?_, fun h => by simp [Fence.wide] at h, ?_⟩
  · rw [← hW0, hlp, ← hD]
    exact run_enterLoop_outer _ _ _ _ _
  · simp only [resolve, hg]
    simp [go_sem]
  · simp [invoke, go_sem, eg]
  · refine (hseq (D + 1) (fun pre W => I pre W ∧ W.heap[D + 1]? = some (.loop (lp .ready none)) ∧ W.heap[D]? = some (.deferred (some [])) ∧ D + 2 ≤ W.heap.size)
      (fun pre W => ∃ c, Ix c pre W ∧ W.heap[D + 1]? = some (.loop (lp .done (some c))) ∧ W.heap[D]? = some (.deferred (some [])) ∧ D + 2 ≤ W.heap.size) W0 hbW
      (fun s W1 W2 ⟨h1, h2, h3, h4⟩ hb => ?_) (fun s W1 W2 hx hb => ?_) (fun s W1 h => hKp s W1 h.1) ?_ ⟨hI _ _ _ h0 hB1, hL1, hK1, by omega⟩).mono ?_
    · rw [hsz] at hb
      exact ⟨hI _ _ _ h1 (hb.mono (by omega)), (hb.block _ (by omega)).trans h2, (hb.block _ (by omega)).trans h3, Nat.le_trans h4 hb.size⟩
    · obtain ⟨c, h1, h2, h3, h4⟩ := hx
      rw [hsz] at hb
      exact ⟨c, hIx _ _ _ _ h1 (hb.mono (by omega)), (hb.block _ (by omega)).trans h2, (hb.block _ (by omega)).trans h3, Nat.le_trans h4 hb.size⟩
    · rintro pre x W ⟨hi, hl, hk, hs⟩ hG hOk _ hlen
      rw [hsz] at hOk ⊢
      have hy := run_yield (P := P) (args := encs x) hl (by rw [hlp]; exact hps x)
      rw [hlp] at hy
      refine ⟨fn, _, assign, body, hy, roundIn_of_wpIn trivial (hassign _ pre x W _ hi hG hOk hs hlen fun a' Wa ra ia ax => ?_)⟩
      have hsa := ra.low.size
      have hla : Wa.heap[D + 1]? = some (.loop (lp .ready none)) := (ra.high _ (by omega) (by omega)).trans hl
      have hka : Wa.heap[D]? = some (.deferred (some [])) := (ra.high _ (Nat.le_refl _) (by omega)).trans hk
      refine ⟨_, run_beginRound hla (by rw [hlp]), ?_⟩
      have rb : Rs n (D + 2) Wa (Wa.putObj (D + 1) (.loop { lp .ready none with state := .busy })) := Rs.put Wa _ (by omega) (by omega) (by omega)
      have hlb : (Wa.putObj (D + 1) (.loop { lp .ready none with state := .busy })).heap[D + 1]? = some (.loop { lp .ready none with state := .busy }) := World.putObj_heap_same (by omega)
      have hkb : (Wa.putObj (D + 1) (.loop { lp .ready none with state := .busy })).heap[D]? = some (.deferred (some [])) := (World.putObj_heap_other (by omega)).trans hka
      have hib : I pre (Wa.putObj (D + 1) (.loop { lp .ready none with state := .busy })) := hI _ _ _ ia ((Below.refl D Wa).grown (grownBy_putObj' Wa _ _) (by omega) (fun k e => by cases e; omega))
      have hsb : D + 2 ≤ (Wa.putObj (D + 1) (.loop { lp .ready none with state := .busy })).heap.size := by simp; omega
      have hab := hAx x a' Wa (.loop { lp .ready none with state := .busy }) ax
      obtain ⟨Wb, hWb⟩ : ∃ Wb, Wa.putObj (D + 1) (.loop { lp .ready none with state := .busy }) = Wb := ⟨_, rfl⟩
      rw [hWb] at rb hlb hkb hib hsb hab ⊢
      refine wpIn_mono (hbody _ pre x a' Wb hib hG hab hsb hlen) ?_
      have fin : ∀ (jump : Option Code) (W3 : World), Rs n D Wb W3 →
          (Instr.endRound (D + 1) jump).run P W3 = .ok (.bool jump.isNone) (W3.putObj (D + 1) (.loop (lp (if jump.isNone then .ready else .done) jump))) ∧ Below D W3 (W3.putObj (D + 1) (.loop (lp (if jump.isNone then .ready else .done) jump))) ∧
          (W3.putObj (D + 1) (.loop (lp (if jump.isNone then .ready else .done) jump))).heap[D + 1]? = some (.loop (lp (if jump.isNone then .ready else .done) jump)) ∧
          (W3.putObj (D + 1) (.loop (lp (if jump.isNone then .ready else .done) jump))).heap[D]? = some (.deferred (some [])) ∧ D + 2 ≤ (W3.putObj (D + 1) (.loop (lp (if jump.isNone then .ready else .done) jump))).heap.size ∧
          Rs n (D + 2) W (W3.putObj (D + 1) (.loop (lp (if jump.isNone then .ready else .done) jump))) := fun jump W3 r3 => by
        have hs3 := r3.low.size
        have hl3 := (r3.high _ (by omega) (by omega)).trans hlb
        have hk3 := (r3.high _ (Nat.le_refl _) (by omega)).trans hkb
        have he := run_endRound (P := P) jump hl3
        rw [hlp] at he
        have r4 : Rs n (D + 2) W3 (W3.putObj (D + 1) (.loop (lp (if jump.isNone then .ready else .done) jump))) := Rs.put W3 _ (by omega) (by omega) (by omega)
        refine ⟨by rw [hlp]; exact he, (Below.refl D W3).grown (grownBy_putObj' W3 _ _) (by omega) (fun k e => by cases e; omega), World.putObj_heap_same (by omega), (World.putObj_heap_other (by omega)).trans hk3, by simp; omega, ?_⟩
        exact (((ra.more (by omega)).trans rb).trans (r3.more (by omega))).trans r4
      rintro e a3 W3 hp
      cases e with
      | normal =>
        obtain ⟨r3, i3⟩ := hp
        obtain ⟨hr, hb4, hl4, hk4, hs4, r4⟩ := fin none W3 r3
        exact ⟨_, _, hr, .inl ⟨rfl, ⟨hI _ _ _ i3 hb4, hl4, hk4, hs4⟩, r4⟩⟩
      | ret =>
        obtain ⟨r3, i3⟩ := hp
        obtain ⟨hr, hb4, hl4, hk4, hs4, r4⟩ := fin (some .ret) W3 r3
        exact ⟨_, _, hr, .inr ⟨rfl, ⟨.ret, hIx _ _ _ _ i3 hb4, hl4, hk4, hs4⟩, r4⟩⟩
      | exit id =>
        obtain ⟨r3, i3⟩ := hp
        obtain ⟨hr, hb4, hl4, hk4, hs4, r4⟩ := fin (some (.exit id)) W3 r3
        exact ⟨_, _, hr, .inr ⟨rfl, ⟨.exit id, hIx _ _ _ _ i3 hb4, hl4, hk4, hs4⟩, r4⟩⟩
      | goto t =>
        obtain ⟨r3, i3⟩ := hp
        obtain ⟨hr, hb4, hl4, hk4, hs4, r4⟩ := fin (some (.goto t)) W3 r3
        exact ⟨_, _, hr, .inr ⟨rfl, ⟨.goto t, hIx _ _ _ _ i3 hb4, hl4, hk4, hs4⟩, r4⟩⟩
      | panic ch => exact hp.elim
      | outgrown => exact hp.elim
    · have last : ∀ (st : LoopState) (pe : Option Code) (W2 : World), W2.heap[D + 1]? = some (.loop (lp st pe)) → W2.heap[D]? = some (.deferred (some [])) → D + 2 ≤ W2.heap.size → st ≠ .busy →
          (Instr.endLoop (D + 1)).run P W2 = .ok pe (W2.putObj (D + 1) (.loop { lp st pe with state := .exhausted })) ∧ Below D W2 (W2.putObj (D + 1) (.loop { lp st pe with state := .exhausted })) ∧
          (W2.putObj (D + 1) (.loop { lp st pe with state := .exhausted })).heap[D]? = some (.deferred (some [])) ∧ D + 2 ≤ (W2.putObj (D + 1) (.loop { lp st pe with state := .exhausted })).heap.size := fun st pe W2 hl hk hs hne => by
        have he := run_endLoop (P := P) hl (by rw [hlp]; exact hne)
        rw [hlp] at he ⊢
        exact ⟨he, (Below.refl D W2).grown (grownBy_putObj' W2 _ _) (by omega) (fun k e => by cases e; omega), (World.putObj_heap_other (by omega)).trans hk, by simp; omega⟩
      rintro e W2 ⟨⟨v, rfl⟩, (⟨xs, hS, hi, hl, hk, hs⟩ | ⟨pre, hSp, c, hi, hl, hk, hs⟩)⟩
      · obtain ⟨he, hb, hk', hs'⟩ := last _ _ W2 hl hk hs (by decide)
        exact ⟨none, _, he, hdone xs _ hs' hS (hI _ _ _ hi hb) hk'⟩
      · obtain ⟨he, hb, hk', hs'⟩ := last _ _ W2 hl hk hs (by decide)
        exact ⟨some c, _, he, hstop c pre _ hs' hSp (hIx _ _ _ _ hi hb) hk'⟩
theorem wp_rangeG {α : Type} {P : Program} {g : Operand} {ps : Array Tmp} {assign body : Code} {Q : Exit → Act → World → Prop} {a : Act} {w : World}
    {gf : Nat} {lb : Array Value} (hg : a.eval g = .func (.func gf) #[] lb) (eg : ∀ args w, (callFunc gf args).run P w = .ok (.enter gf args) w)
    {encs : α → Array Value} {G : List α → Prop} {Ok : Nat → α → World → Prop} {n : Nat} {S Sp : List α → Prop} {N : Nat} {w0 : World} (hseq : SeqG P gf lb encs G Ok n S Sp N w0) (hb0 : Below w0.heap.size w0 w) (hn : n ≤ w.heap.size) (hps : ∀ x, (encs x).size = ps.size)
    (I : List α → World → Prop) (Ix : Code → List α → World → Prop) (hI : ∀ s W1 W2, I s W1 → Below w.heap.size W1 W2 → I s W2) (hIx : ∀ c s W1 W2, Ix c s W1 → Below w.heap.size W1 W2 → Ix c s W2) (h0 : I [] w)
    (Ax : α → Act → World → Prop) (hAx : ∀ x a' W o, Ax x a' W → Ax x a' (W.putObj (w.heap.size + 1) o))
    (hassign : ∀ (l : Nat) (pre : List α) (x : α) (W : World) (K : Act → World → Prop), I pre W → G (pre ++ [x]) → Ok (w.heap.size + 2) x W → w.heap.size + 2 ≤ W.heap.size → pre.length < N → (∀ a' W', Rs n w.heap.size W W' → I pre W' → Ax x a' W' → K a' W') →
      assign.wpIn (Fence.wide.inRound l) 0 P (Exit.then K (fun _ _ _ => False)) { tmps := (ps.zip (encs x)).foldl (fun t (p, v) => t.setIfInBounds p v) a.tmps, defers := [] } W)
    (hbody : ∀ (l : Nat) (pre : List α) (x : α) (a' : Act) (W : World), I pre W → G (pre ++ [x]) → Ax x a' W → w.heap.size + 2 ≤ W.heap.size → pre.length < N → body.wpIn (Fence.wide.inRound l) 0 P (rPost n w.heap.size I Ix (pre ++ [x]) W) a' W)
    (hdone : ∀ (xs : List α) (W : World), w.heap.size + 2 ≤ W.heap.size → S xs → I xs W → W.heap[w.heap.size]? = some (.deferred (some [])) → Q .normal { a with defers := { target := .collected w.heap.size, args := #[] } :: a.defers } W)
    (hstop : ∀ (c : Code) (pre : List α) (W : World), w.heap.size + 2 ≤ W.heap.size → Sp pre → Ix c pre W → W.heap[w.heap.size]? = some (.deferred (some [])) → c.wpIn Fence.wide 0 P Q { a with defers := { target := .collected w.heap.size, args := #[] } :: a.defers } W) :
    (Code.rangeFunc g ps assign body).wpIn Fence.wide 0 P Q a w := by
  exact wp_rangeK hg eg hseq.k hb0 hn hps I Ix hI hIx (fun _ _ _ => trivial) h0 Ax hAx hassign hbody hdone hstop
theorem wp_range {α : Type} {P : Program} {g : Operand} {ps : Array Tmp} {assign body : Code} {Q : Exit → Act → World → Prop} {a : Act} {w : World}
    {gf : Nat} {lb : Array Value} (hg : a.eval g = .func (.func gf) #[] lb) (eg : ∀ args w, (callFunc gf args).run P w = .ok (.enter gf args) w)
    {encs : α → Array Value} {n : Nat} {S Sp : List α → Prop} {N : Nat} {w0 : World} (hseq : Seq P gf lb encs n S Sp N w0) (hb0 : Below w0.heap.size w0 w) (hn : n ≤ w.heap.size) (hps : ∀ x, (encs x).size = ps.size)
    (I : List α → World → Prop) (Ix : Code → List α → World → Prop) (hI : ∀ s W1 W2, I s W1 → Below w.heap.size W1 W2 → I s W2) (hIx : ∀ c s W1 W2, Ix c s W1 → Below w.heap.size W1 W2 → Ix c s W2) (h0 : I [] w)
    (Ax : α → Act → World → Prop) (hAx : ∀ x a' W o, Ax x a' W → Ax x a' (W.putObj (w.heap.size + 1) o))
    (hassign : ∀ (l : Nat) (pre : List α) (x : α) (W : World) (K : Act → World → Prop), I pre W → w.heap.size + 2 ≤ W.heap.size → pre.length < N → (∀ a' W', Rs n w.heap.size W W' → I pre W' → Ax x a' W' → K a' W') →
      assign.wpIn (Fence.wide.inRound l) 0 P (Exit.then K (fun _ _ _ => False)) { tmps := (ps.zip (encs x)).foldl (fun t (p, v) => t.setIfInBounds p v) a.tmps, defers := [] } W)
    (hbody : ∀ (l : Nat) (pre : List α) (x : α) (a' : Act) (W : World), I pre W → Ax x a' W → w.heap.size + 2 ≤ W.heap.size → pre.length < N → body.wpIn (Fence.wide.inRound l) 0 P (rPost n w.heap.size I Ix (pre ++ [x]) W) a' W)
    (hdone : ∀ (xs : List α) (W : World), w.heap.size + 2 ≤ W.heap.size → S xs → I xs W → W.heap[w.heap.size]? = some (.deferred (some [])) → Q .normal { a with defers := { target := .collected w.heap.size, args := #[] } :: a.defers } W)
    (hstop : ∀ (c : Code) (pre : List α) (W : World), w.heap.size + 2 ≤ W.heap.size → Sp pre → Ix c pre W → W.heap[w.heap.size]? = some (.deferred (some [])) → c.wpIn Fence.wide 0 P Q { a with defers := { target := .collected w.heap.size, args := #[] } :: a.defers } W) :
    (Code.rangeFunc g ps assign body).wpIn Fence.wide 0 P Q a w := by
  exact wp_rangeG hg eg hseq hb0 hn hps I Ix hI hIx h0 Ax hAx (fun l pre x W K h1 _ _ h2 h3 h4 => hassign l pre x W K h1 h2 h3 h4) (fun l pre x a' W h1 _ h2 h3 h4 => hbody l pre x a' W h1 h2 h3 h4) hdone hstop
/-- A loop that may be left by a break: both ways go on alike. -/
theorem wp_rangeB {α : Type} {P : Program} {g : Operand} {ps : Array Tmp} {assign body : Code} {Q : Exit → Act → World → Prop} {a : Act} {w : World}
    {gf : Nat} {lb : Array Value} (hg : a.eval g = .func (.func gf) #[] lb) (eg : ∀ args w, (callFunc gf args).run P w = .ok (.enter gf args) w)
    {encs : α → Array Value} {G : List α → Prop} {Ok : Nat → α → World → Prop} {n : Nat} {S Sp : List α → Prop} {N : Nat} {w0 : World} (hseq : SeqG P gf lb encs G Ok n S Sp N w0) (hb0 : Below w0.heap.size w0 w) (hn : n ≤ w.heap.size) (hps : ∀ x, (encs x).size = ps.size)
    (I : List α → World → Prop) (Ix : Code → List α → World → Prop) (hI : ∀ s W1 W2, I s W1 → Below w.heap.size W1 W2 → I s W2) (hIx : ∀ c s W1 W2, Ix c s W1 → Below w.heap.size W1 W2 → Ix c s W2) (h0 : I [] w)
    (Ax : α → Act → World → Prop) (hAx : ∀ x a' W o, Ax x a' W → Ax x a' (W.putObj (w.heap.size + 1) o))
    (hassign : ∀ (l : Nat) (pre : List α) (x : α) (W : World) (K : Act → World → Prop), I pre W → G (pre ++ [x]) → Ok (w.heap.size + 2) x W → w.heap.size + 2 ≤ W.heap.size → pre.length < N → (∀ a' W', Rs n w.heap.size W W' → I pre W' → Ax x a' W' → K a' W') →
      assign.wpIn (Fence.wide.inRound l) 0 P (Exit.then K (fun _ _ _ => False)) { tmps := (ps.zip (encs x)).foldl (fun t (p, v) => t.setIfInBounds p v) a.tmps, defers := [] } W)
    (hbody : ∀ (l : Nat) (pre : List α) (x : α) (a' : Act) (W : World), I pre W → G (pre ++ [x]) → Ax x a' W → w.heap.size + 2 ≤ W.heap.size → pre.length < N → body.wpIn (Fence.wide.inRound l) 0 P (rPost n w.heap.size I Ix (pre ++ [x]) W) a' W)
    (b : Nat) (hx : ∀ c s W, Ix c s W → c = .exit b) (hQ : ∀ a W, Q .normal a W → Q (.exit b) a W)
    (hout : ∀ (W : World), w.heap.size + 2 ≤ W.heap.size → ((∃ xs, S xs ∧ I xs W) ∨ (∃ pre, Sp pre ∧ Ix (.exit b) pre W)) → W.heap[w.heap.size]? = some (.deferred (some [])) → Q .normal { a with defers := { target := .collected w.heap.size, args := #[] } :: a.defers } W) :
    (Code.rangeFunc g ps assign body).wpIn Fence.wide 0 P Q a w := by
  refine wp_rangeG hg eg hseq hb0 hn hps I Ix hI hIx h0 Ax hAx hassign hbody (fun xs W h1 h2 h3 h4 => hout W h1 (.inl ⟨xs, h2, h3⟩) h4) fun c pre W h1 h2 h3 h4 => ?_
  obtain rfl := hx _ _ _ h3
  exact wpIn_exit (hQ _ _ (hout W h1 (.inr ⟨pre, h2, h3⟩) h4))
end Go.Proofs.Ytmihoeholcaokaa
