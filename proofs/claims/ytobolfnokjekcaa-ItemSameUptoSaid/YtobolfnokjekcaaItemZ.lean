
/- Two copies, made in any order of the rest: the region. -/
import Derived.Test.YtobolfnokjekcaaItemY
import Derived.Shelf.Abstract
namespace Go.Proofs.Ytobolfnokjekcaa
open Go.RowKit Go.Shelf

section
variable {P : Program} {ev : Operand → Value} {o : Oper} {W W' : World}
theorem exec_load {ty : TypeId} {x : Operand} {p v : Value} (ho : o.op = .load ty x) (hx : ev x = p) (hr : (Instr.loadAt ty p).run P W = .ok v W) : (execOp ev o).run P W = .ok (.value v) W := by
  unfold execOp
  simp only [ho, hx, Sem.run_bind, Sem.run_pure, Result.andThen_ok, hr]
theorem exec_store {ty : TypeId} {x y : Operand} {p v : Value} (ho : o.op = .store ty x y) (hx : ev x = p) (hy : ev y = v) (hr : (Instr.storeAt ty p v).run P W = .ok () W') : (execOp ev o).run P W = .ok .skip W' := by
  unfold execOp
  simp only [ho, hx, hy, Sem.run_bind, Sem.run_pure, Result.andThen_ok, hr]
end
theorem exec_alloc {ev : Operand → Value} {o : Oper} {W : World} (ho : o.op = .alloc 25) : (execOp ev o).run Try.prog W = .ok (.value (.pointer (some ⟨W.heap.size, 0, none⟩))) (W.alloc (.cells zero4 25)) := by
  unfold execOp
  simp [ho, go_sem, zero4]
theorem exec_copy {ev : Operand → Value} {o : Oper} {W : World} {x : Operand} {v : Value} (ho : o.op = .call { callee := .value (.func 16), args := #[x], argTypes := #[25] }) (hx : ev x = v) (hf : ev (.func 16) = .func (.func 16) #[] #[]) : (execOp ev o).run Try.prog W = .ok (.enter 16 #[v]) W := by
  have eg := enters_of Try.func16 (by kernel_rfl) rfl
  unfold execOp
  simp [ho, hx, hf, go_sem]

/-- Behind the first store. -/
structure E6 (N n : Nat) (w5 : World) (x : It) (T : Array Value) (a : Act) (W : World) (D1 D3 : Nat → Prop) (gC gD : Nat) (A1 : Option Addr) (c1 : Nat) (A3 : Option Addr) (c3 : Nat) (V : Array Value) : Prop where
  fr : Fr T a
  low : Below N w5 W
  t5 : a.eval (.tmp 5) = .pointer (some ⟨gC, 0, none⟩)
  t6 : a.eval (.tmp 6) = .pointer (some ⟨gD, 0, none⟩)
  t42 : a.eval (.tmp 42) = .agg (vC x A3 c3)
  d1 : ∀ b, D1 b → N ≤ b ∧ b < W.heap.size
  d3 : ∀ b, D3 b → N ≤ b ∧ b < W.heap.size
  dd : ∀ b, D1 b → ¬ D3 b
  s1 : Cs W n x.l A1 c1 D1
  s3 : Cs W n x.l A3 c3 D3
  gc : N ≤ gC ∧ gC < W.heap.size ∧ ¬ D1 gC ∧ ¬ D3 gC
  gd : N ≤ gD ∧ gD < W.heap.size ∧ ¬ D1 gD ∧ ¬ D3 gD
  ne : gC ≠ gD
  kC : Blk W gC 25 (vC x A1 c1)
  kD : Blk W gD 25 V
theorem E6.set {N n gC gD g c1 c3 : Nat} {w5 W : World} {x : It} {T : Array Value} {a : Act} {D1 D3 : Nat → Prop} {A1 A3 : Option Addr} {V V' : Array Value} (h : E6 N n w5 x T a W D1 D3 gC gD A1 c1 A3 c3 V) (hn : n ≤ N) (hg : g = gD) :
    E6 N n w5 x T a (W.setRow g V') D1 D3 gC gD A1 c1 A3 c3 V' := by
  subst hg
  have ho := (Only.refl g W).setRow V'
  have hb : ∀ B, B ≤ g → B ≤ W.heap.size → Below B W (W.setRow g V') := fun B h1 h2 => ho.below h1 h2
  have hgd := h.gd
  have hsz : (W.setRow g V').heap.size = W.heap.size := by simp [World.setRow]
  exact ⟨h.fr, h.low.trans (hb N hgd.1 (by omega)), h.t5, h.t6, h.t42, by rw [hsz]; exact h.d1, by rw [hsz]; exact h.d3, h.dd, h.s1.keep (fun b hb' => setRow_far W V' (fun e => hgd.2.2.1 (e ▸ hb'))) (hb n (by omega) (by omega)),
    h.s3.keep (fun b hb' => setRow_far W V' (fun e => hgd.2.2.2 (e ▸ hb'))) (hb n (by omega) (by omega)), by rw [hsz]; exact h.gc, by rw [hsz]; exact h.gd, h.ne, h.kC.farRow h.ne V', h.kD.setRow V'⟩
theorem vC_size (x : It) (A : Option Addr) (c : Nat) : (vC x A c).size = 4 := rfl
theorem vC_one (x : It) (A : Option Addr) (c : Nat) : ((vC x A c).all fun v => v.oneCell') = true := by simp [vC, Value.oneCell']

theorem ld7 {W : World} {g : Nat} {V : Array Value} (h : Blk W g 25 V) (hs : V.size = 4) : (Instr.loadAt 25 (.pointer (some ⟨g, 0, none⟩))).run Try.prog W = .ok (.agg V) W := run_load_all h Try.underlying25 rfl (by rw [hs]; kernel_rfl)
theorem st7 {W : World} {g : Nat} {V V' : Array Value} (h : Blk W g 25 V) (hV : V.size = 4) (hs : V'.size = 4) (h1 : (V'.all fun v => v.oneCell') = true) : (Instr.storeAt 25 (.pointer (some ⟨g, 0, none⟩)) (.agg V')).run Try.prog W = .ok () (W.setRow g V') := run_store_all h (by rw [hs]; kernel_rfl) (hV.trans hs.symm) h1
/-- The order's three stretches. -/
def I7 (N n : Nat) (w5 : World) (x : It) (v0 : Value) (T : Array Value) (s : Array Bool) (a : Act) (W : World) : Prop :=
  s.size = 8 ∧ ((¬ Up s 6 ∧ ¬ Up s 7 ∧ (Up s 3 → Up s 2) ∧ ∃ D1 D3 gC gD, S7 N n w5 x v0 T s a W D1 D3 gC gD) ∨
      (Up s 6 ∧ ¬ Up s 7 ∧ (∀ j, j < 6 → Up s j) ∧ ∃ D1 D3 gC gD A1 c1 A3 c3, E6 N n w5 x T a W D1 D3 gC gD A1 c1 A3 c3 zero4) ∨ (Up s 7 ∧ (∀ j, j < 8 → Up s j) ∧ ∃ D1 D3 gC gD A1 c1 A3 c3, E6 N n w5 x T a W D1 D3 gC gD A1 c1 A3 c3 (vC x A3 c3)))
/-- The eight operations. -/
structure O8 (ops : Array Oper) : Prop where
  size : ops.size = 8
  low : ∀ i o, ops[i]? = some o → ∀ e ∈ o.after, Region.binds .any e = true → e.on < i
  q0 : ∃ o, ops[0]? = some o ∧ o.guard = none ∧ o.dst = some 39 ∧ o.op = .load 25 (.tmp 2)
  q1 : ∃ o, ops[1]? = some o ∧ o.guard = none ∧ o.dst = some 40 ∧ o.op = .call { callee := .value (.func 16), args := #[.tmp 39], argTypes := #[25] } ∧ ∃ e ∈ o.after, Region.binds .any e = true ∧ e.on = 0
  q2 : ∃ o, ops[2]? = some o ∧ o.guard = none ∧ o.dst = some 41 ∧ o.op = .load 25 (.tmp 2)
  q3 : ∃ o, ops[3]? = some o ∧ o.guard = none ∧ o.dst = some 42 ∧ o.op = .call { callee := .value (.func 16), args := #[.tmp 41], argTypes := #[25] } ∧ ∃ e ∈ o.after, Region.binds .any e = true ∧ e.on = 2
  q4 : ∃ o, ops[4]? = some o ∧ o.guard = none ∧ o.dst = some 5 ∧ o.op = .alloc 25
  q5 : ∃ o, ops[5]? = some o ∧ o.guard = none ∧ o.dst = some 6 ∧ o.op = .alloc 25
  q6 : ∃ o, ops[6]? = some o ∧ o.guard = none ∧ o.dst = none ∧ o.op = .store 25 (.tmp 5) (.tmp 40) ∧ ∀ j, j = 0 ∨ j = 1 ∨ j = 3 ∨ j = 4 ∨ j = 5 → ∃ e ∈ o.after, Region.binds .any e = true ∧ e.on = j
  q7 : ∃ o, ops[7]? = some o ∧ o.guard = none ∧ o.dst = none ∧ o.op = .store 25 (.tmp 6) (.tmp 42) ∧ ∃ e ∈ o.after, Region.binds .any e = true ∧ e.on = 6
set_option maxHeartbeats 4000000 in
theorem step7 {ops : Array Oper} {Q : Exit → Act → World → Prop} {N n g0 : Nat} {w5 : World} {x : It} {A0 : Option Addr} {c0 : Nat} {T : Array Value} (hN : w5.heap.size = N) (hn : n ≤ N) (hT : T.size = 94) (hT2 : T[2]? = some (.pointer (some ⟨g0, 0, none⟩)))
    (hx0 : Blk w5 g0 25 (vC x A0 c0)) (hcp : ∀ W, Below N w5 W → Calls Try.prog 16 #[.agg (vC x A0 c0)] W fun e w' => ∃ A' cap', e = .returned (.agg (vC x A' cap')) ∧ Cpd w' n W.heap.size x.l A' cap' ∧ Below W.heap.size W w') (hO : O8 ops) :
    ∀ s a W i, I7 N n w5 x (.agg (vC x A0 c0)) T s a W → i < ops.size → ¬ Up s i → (∀ o, ops[i]? = some o → ∀ e ∈ o.after, Region.binds .any e = true → Up s e.on) → wpOp Try.prog ops Q i (fun b w' => I7 N n w5 x (.agg (vC x A0 c0)) T (s.setIfInBounds i true) b w') a W := by
  obtain ⟨hsz, _, q0, q1, q2, q3, q4, q5, q6, q7⟩ := hO
  rintro s a W i ⟨hs, hI⟩ hi8 hnu hE
  rw [hsz] at hi8
  have set8 : (s.setIfInBounds i true).size = 8 := by simpa using hs
  have hi : i < s.size := by omega
  rcases hI with ⟨n6, n7, h32, D1, D3, gC, gD, h⟩ | ⟨u6, n7, hall, D1, D3, gC, gD, A1, c1, A3, c3, h⟩ | ⟨u7, hall, _⟩
  · have hlow := h.low
    have hNW : N ≤ W.heap.size := by have := hlow.size; omega
    have hnW : n ≤ W.heap.size := by omega
    have keep : ∀ j, j ≠ i → ¬ Up s j → ¬ Up (s.setIfInBounds i true) j := fun j hj hn' hu => by
      rcases (up_set hi).1 hu with e | e
      · exact hj e
      · exact hn' e
    have more : ∀ j, Up s j → Up (s.setIfInBounds i true) j := fun j hu => (up_set hi).2 (.inr hu)
    have ev2 : a.eval (.tmp 2) = .pointer (some ⟨g0, 0, none⟩) := by
      have := h.fr.2.2 2 (by decide) (by decide) (by decide) (by decide) (by decide) (by decide)
      rw [hT2] at this
      simp [Act.eval, Array.getD_eq_getD_getElem?, this]
    have hld : (Instr.loadAt 25 (.pointer (some ⟨g0, 0, none⟩))).run Try.prog W = .ok (.agg (vC x A0 c0)) W := ld7 (hx0.below hlow (by rw [← hN]; exact hx0.lt)) (vC_size _ _ _)
    rcases (by omega : i = 0 ∨ i = 1 ∨ i = 2 ∨ i = 3 ∨ i = 4 ∨ i = 5 ∨ i = 6 ∨ i = 7) with rfl | rfl | rfl | rfl | rfl | rfl | rfl | rfl
    · obtain ⟨o, k1, k2, k3, k4⟩ := q0
      refine op_run k1 k2 (exec_load k4 ev2 hld) ?_
      rw [k3]
      exact ⟨set8, .inl ⟨keep 6 (by omega) n6, keep 7 (by omega) n7, fun hu => more 2 (h32 ((up_set hi).1 hu |>.resolve_left (by omega))), _, _, _, _, h.load hT hs (.inl ⟨rfl, rfl⟩)⟩⟩
    · obtain ⟨o, k1, k2, k3, k4, e, k5, k6, k7⟩ := q1
      have u0 : Up s 0 := k7 ▸ hE o k1 e k5 k6
      refine op_call k1 k2 (exec_copy k4 (h.f0 u0) rfl) ((hcp W hlow).mono ?_)
      rintro e' w' ⟨A', c', rfl, hc, hb⟩
      refine ⟨_, rfl, ?_⟩
      rw [k3]
      exact ⟨set8, .inl ⟨keep 6 (by omega) n6, keep 7 (by omega) n7, fun hu => more 2 (h32 ((up_set hi).1 hu |>.resolve_left (by omega))), _, _, _, _, h.copy1 hT hs hnW hNW hc hb⟩⟩
    · obtain ⟨o, k1, k2, k3, k4⟩ := q2
      refine op_run k1 k2 (exec_load k4 ev2 hld) ?_
      rw [k3]
      exact ⟨set8, .inl ⟨keep 6 (by omega) n6, keep 7 (by omega) n7, fun _ => (up_set hi).2 (.inl rfl), _, _, _, _, h.load hT hs (.inr ⟨rfl, rfl⟩)⟩⟩
    · obtain ⟨o, k1, k2, k3, k4, e, k5, k6, k7⟩ := q3
      have u2 : Up s 2 := k7 ▸ hE o k1 e k5 k6
      refine op_call k1 k2 (exec_copy k4 (h.f2 u2) rfl) ((hcp W hlow).mono ?_)
      rintro e' w' ⟨A', c', rfl, hc, hb⟩
      refine ⟨_, rfl, ?_⟩
      rw [k3]
      exact ⟨set8, .inl ⟨keep 6 (by omega) n6, keep 7 (by omega) n7, fun _ => more 2 u2, _, _, _, _, h.copy3 hT hs hnW hNW hc hb⟩⟩
    · obtain ⟨o, k1, k2, k3, k4⟩ := q4
      refine op_run k1 k2 (exec_alloc k4) ?_
      rw [k3]
      exact ⟨set8, .inl ⟨keep 6 (by omega) n6, keep 7 (by omega) n7, fun hu => more 2 (h32 ((up_set hi).1 hu |>.resolve_left (by omega))), _, _, _, _, h.alloc hT hs hnW hNW (.inl ⟨rfl, rfl⟩)⟩⟩
    · obtain ⟨o, k1, k2, k3, k4⟩ := q5
      refine op_run k1 k2 (exec_alloc k4) ?_
      rw [k3]
      exact ⟨set8, .inl ⟨keep 6 (by omega) n6, keep 7 (by omega) n7, fun hu => more 2 (h32 ((up_set hi).1 hu |>.resolve_left (by omega))), _, _, _, _, h.alloc hT hs hnW hNW (.inr ⟨rfl, rfl⟩)⟩⟩
    · obtain ⟨o, k1, k2, k3, k4, k5⟩ := q6
      have up : ∀ j, j = 0 ∨ j = 1 ∨ j = 3 ∨ j = 4 ∨ j = 5 → Up s j := fun j hj => by
        obtain ⟨e, m1, m2, m3⟩ := k5 j hj
        exact m3 ▸ hE o k1 e m1 m2
      obtain ⟨A1, c1, v1, s1⟩ := h.f1 (up 1 (by omega))
      obtain ⟨A3, c3, v3, s3⟩ := h.f3 (up 3 (by omega))
      obtain ⟨t5, m1, m2, m3, m4, kC⟩ := h.f4 (up 4 (by omega))
      obtain ⟨t6, l1, l2, l3, l4, kD⟩ := h.f5 (up 5 (by omega))
      have hne := h.f45 (up 4 (by omega)) (up 5 (by omega))
      refine op_skip k1 k2 (exec_store k4 t5 v1 (st7 kC rfl (vC_size _ _ _) (vC_one _ _ _))) ?_
      rw [k3]
      have ho := (Only.refl gC W).setRow (vC x A1 c1)
      have hb : ∀ B, B ≤ gC → B ≤ W.heap.size → Below B W (W.setRow gC (vC x A1 c1)) := fun B h1 h2 => ho.below h1 h2
      have hsz' : (W.setRow gC (vC x A1 c1)).heap.size = W.heap.size := by simp [World.setRow]
      refine ⟨set8, .inr (.inl ⟨(up_set hi).2 (.inl rfl), keep 7 (by omega) n7, fun j hj => more j ?_, D1, D3, gC, gD, A1, c1, A3, c3, ?_⟩)⟩
      · rcases (by omega : j = 2 ∨ (j = 0 ∨ j = 1 ∨ j = 3 ∨ j = 4 ∨ j = 5)) with rfl | hj
        · exact h32 (up 3 (by omega))
        · exact up j hj
      · exact ⟨h.fr, h.low.trans (hb N m1 hNW), t5, t6, v3, by rw [hsz']; exact h.d1, by rw [hsz']; exact h.d3, h.dd, s1.keep (fun b hb' => setRow_far W _ (fun e => m3 (e ▸ hb'))) (hb n (by omega) hnW),
          s3.keep (fun b hb' => setRow_far W _ (fun e => m4 (e ▸ hb'))) (hb n (by omega) hnW), by rw [hsz']; exact ⟨m1, m2, m3, m4⟩, by rw [hsz']; exact ⟨l1, l2, l3, l4⟩, hne, kC.setRow _, kD.farRow (Ne.symm hne) _⟩
    · obtain ⟨o, k1, k2, k3, k4, e, k5, k6, k7⟩ := q7
      exact absurd (k7 ▸ hE o k1 e k5 k6) n6
  · have h7 : i = 7 := by
      rcases (by omega : i < 6 ∨ i = 6 ∨ i = 7) with h | h | h
      · exact absurd (hall i h) hnu
      · exact absurd (h ▸ u6) hnu
      · exact h
    subst h7
    obtain ⟨o, k1, k2, k3, k4, _⟩ := q7
    refine op_skip k1 k2 (exec_store k4 h.t6 h.t42 (st7 h.kD rfl (vC_size _ _ _) (vC_one _ _ _))) ?_
    rw [k3]
    refine ⟨set8, .inr (.inr ⟨(up_set hi).2 (.inl rfl), fun j hj => ?_, D1, D3, gC, gD, A1, c1, A3, c3, h.set hn rfl⟩)⟩
    rcases (by omega : j < 6 ∨ j = 6 ∨ j = 7) with h' | rfl | rfl
    · exact (up_set hi).2 (.inr (hall j h'))
    · exact (up_set hi).2 (.inr u6)
    · exact (up_set hi).2 (.inl rfl)
  · exact absurd (hall i hi8) hnu

theorem all_up {ops : Array Oper} {s : Array Bool} (hO : O8 ops) (hs : s.size = 8) (hr : Region.ready .any ops s = []) : ∀ j, j < 8 → Up s j := by
  intro j
  induction j using Nat.strongRecOn with
  | ind j ih =>
    intro hj
    apply Classical.byContradiction
    intro hn
    have hjs : j < s.size := by omega
    obtain ⟨o, ho⟩ : ∃ o, ops[j]? = some o := ⟨_, Array.getElem?_eq_getElem (by rw [hO.size]; exact hj)⟩
    have : j ∈ Region.ready .any ops s := by
      refine mem_ready.2 ⟨?_, o, ho, fun e he hb => ?_⟩
      · unfold Up at hn
        rw [Array.getD_eq_getD_getElem?, Array.getElem?_eq_getElem hjs] at hn ⊢
        simpa using hn
      · have := hO.low j o ho e he hb
        exact ih e.on this (by omega)
    rw [hr] at this
    simp at this
theorem wp_copies {id : Nat} {ops : Array Oper} {Q : Exit → Act → World → Prop} {N n g0 : Nat} {w5 : World} {x : It} {A0 : Option Addr} {c0 : Nat} {T : Array Value} (hN : w5.heap.size = N) (hn : n ≤ N) (hT : T.size = 94) (hT2 : T[2]? = some (.pointer (some ⟨g0, 0, none⟩)))
    (hx0 : Blk w5 g0 25 (vC x A0 c0)) (hcp : ∀ W, Below N w5 W → Calls Try.prog 16 #[.agg (vC x A0 c0)] W fun e w' => ∃ A' cap', e = .returned (.agg (vC x A' cap')) ∧ Cpd w' n W.heap.size x.l A' cap' ∧ Below W.heap.size W w')
    (hO : O8 ops)
    (hQ : ∀ a' W' D1 D3 gC gD A1 c1 A3 c3, E6 N n w5 x T a' W' D1 D3 gC gD A1 c1 A3 c3 (vC x A3 c3) → Q .normal a' W') : (Code.region id ops true).wp Try.prog Q { tmps := T, defers := [] } w5 := by
  refine wp_region_any (by kernel_rfl) ?_
  refine any_of_inv (I7 N n w5 x (.agg (vC x A0 c0)) T) (fun s a w h => by rw [hO.size]; exact h.1) (step7 hN hn hT hT2 hx0 hcp hO) ?_ _ _ _ _ ?_ ?_
  · rintro s a W ⟨hs, hI⟩ hr
    have hall := all_up hO hs hr
    rcases hI with ⟨n6, _⟩ | ⟨_, n7, _⟩ | ⟨_, _, D1, D3, gC, gD, A1, c1, A3, c3, h⟩
    · exact absurd (hall 6 (by decide)) n6
    · exact absurd (hall 7 (by decide)) n7
    · exact hQ _ _ _ _ _ _ _ _ _ _ h
  · have hno : ∀ j, ¬ Up (Array.replicate ops.size false) j := fun j hu => by
      unfold Up at hu
      rw [Array.getD_eq_getD_getElem?, Array.getElem?_replicate] at hu
      split at hu <;> simp at hu
    refine ⟨by simp [hO.size], .inl ⟨hno 6, hno 7, fun h => absurd h (hno 3), fun _ => False, fun _ => False, 0, 0, ?_⟩⟩
    exact ⟨⟨rfl, rfl, fun _ _ _ _ _ _ _ => rfl⟩, ⟨rfl, rfl, rfl, Nat.le_refl _, fun _ _ => rfl⟩, fun h => absurd h (hno 0), fun h => absurd h (hno 2), fun _ h => h.elim, fun _ h => h.elim, fun _ h => h.elim, fun h => absurd h (hno 1), fun h => absurd h (hno 3), fun _ _ h => h, fun _ _ h => h, fun h => absurd h (hno 4), fun h => absurd h (hno 5), fun h => absurd h (hno 4)⟩
  · rw [Array.toList_replicate, List.count_replicate_self]
    exact Nat.le_refl _
end Go.Proofs.Ytobolfnokjekcaa
