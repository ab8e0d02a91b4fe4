/- Package auto: Step, that tells nobody. -/
import Derived.Test.YtmclmfhimdppjaaKBJ
namespace Go.Proofs.Ytmclmfhimdppjaa
open Go.RowKit

/-- What a byte comes to: the error, or none. -/
def stepK (S : Int) (i : Nat) (o : Out) : Int := if S ≤ i then 1 else match o.notes with
  | [] => 0
  | m :: _ => m.2
theorem stepK_pos {S : Int} {D K i : Nat} {s : AQ} {c : Int} : stepK S i (fstep D K i s c) = 0 ∨ (1 ≤ stepK S i (fstep D K i s c) ∧ stepK S i (fstep D K i s c) ≤ 7) := by
  unfold stepK
  split
  · exact .inr ⟨by decide, by decide⟩
  · split
    · exact .inl rfl
    · next m r hm =>
      have := (fstep_notes (D := D) (K := K) i s c).2.1 m (by rw [hm]; exact List.mem_cons_self)
      exact .inr ⟨by omega, this.2.2⟩
theorem stepK_ok {S : Int} {D K i : Nat} {s : AQ} {c : Int} (h : stepK S i (fstep D K i s c) = 0) : ¬ S ≤ i ∧ (fstep D K i s c).notes = [] := by
  unfold stepK at h
  split at h
  · cases h
  · next hs =>
    split at h
    · next hn => exact ⟨hs, hn⟩
    · next m r hm =>
      have := (fstep_notes (D := D) (K := K) i s c).2.1 m (by rw [hm]; exact List.mem_cons_self)
      omega
theorem lok_of {D K : Nat} {s : AQ} (h : AOk D K s) : LOk s.st := fun y hy => ⟨(h.frs y hy).left0, (h.frs y hy).left1⟩
section
variable {own : Nat → Nat} {a f D K i : Nat} {x : AC} {s : AQ} {c : Int}
theorem auto_takeP (w : World) (h : Aut w own a f D K s.st x) (hO : AOk D K s) (hM : AM s x) (h0 : 0 ≤ c) (h1 : c < 256) :
    Calls Try.prog 22 #[.pointer (some ⟨a, 0, none⟩), .int .u8 c] w fun e w' => TakeW own a f D K s.st x c e w' ∧ Wi (SA own a) w w' := by
  have ht : 0 ≤ x.text ∧ x.text < 18446744073709551616 ∧ (0 < x.text → x.q.opn = false) := by
    obtain ⟨st, k⟩ := s
    have hc := hM.ctl
    rcases hO.ctl with ⟨q, e, _, _⟩ | ⟨n, t, u, e, n1, n2, _, _⟩ | ⟨e, _⟩
    · dsimp only at e; subst e
      obtain ⟨ct, _, _⟩ := hc
      exact ⟨by omega, by omega, fun h => by omega⟩
    · dsimp only at e; subst e
      obtain ⟨ct, _, _, _, co⟩ := hc
      exact ⟨by omega, by omega, fun _ => co⟩
    · dsimp only at e; subst e
      obtain ⟨_, ct⟩ := hc
      exact ⟨by omega, by omega, fun h => by omega⟩
  exact auto_take w own a f D K s.st x c h (lok_of hO) h0 h1 hM.hq hM.hok ht.1 ht.2.1 ht.2.2 hM.hu
theorem take_err (w : World) (h : Aut w own a f D K s.st x) (hO : AOk D K s) (hM : AM s x) (h0 : 0 ≤ c) (h1 : c < 256) (hi : x.handed = i) (hk : stepK x.S i (fstep D K i s c) ≠ 0) :
    Calls Try.prog 22 #[.pointer (some ⟨a, 0, none⟩), .int .u8 c] w fun e w' => ErrP own a f D K x (stepK x.S i (fstep D K i s c)) e w' ∧ Wi (SA own a) w w' := by
  refine (auto_takeP w h hO hM h0 h1).mono ?_
  rintro e w' ⟨hp, hw⟩
  refine ⟨?_, hw⟩
  by_cases hS : x.S ≤ x.handed
  · have : stepK x.S i (fstep D K i s c) = 1 := by unfold stepK; rw [if_pos (by omega)]
    rw [this]
    exact hp.big hS
  · rcases take_plain (i := i) hO hM h0 h1 hp hS with ⟨k, ⟨m, r, q1, q2⟩, q3⟩ | ⟨hn, _⟩
    · have : stepK x.S i (fstep D K i s c) = k := by unfold stepK; rw [if_neg (by omega), q1]; exact q2
      rw [this]
      exact q3
    · exact absurd (by unfold stepK; rw [if_neg (by omega), hn]) hk
theorem take_ok (w : World) (h : Aut w own a f D K s.st x) (hO : AOk D K s) (hM : AM s x) (h0 : 0 ≤ c) (h1 : c < 256) (hi : x.handed = i) (hk : stepK x.S i (fstep D K i s c) = 0) :
    Calls Try.prog 22 #[.pointer (some ⟨a, 0, none⟩), .int .u8 c] w fun e w' => (∃ s' n x', Goes1 own a f D K i s x c s' n x' e w') ∧ Wi (SA own a) w w' := by
  obtain ⟨k1, k2⟩ := stepK_ok hk
  refine (auto_takeP w h hO hM h0 h1).mono ?_
  rintro e w' ⟨hp, hw⟩
  refine ⟨?_, hw⟩
  rcases take_plain (i := i) hO hM h0 h1 hp (by omega) with ⟨k, ⟨m, r, q1, q2⟩, q3⟩ | ⟨hn, q⟩
  · rw [k2] at q1; cases q1
  · exact q
end
section
variable {own : Nat → Nat} {a f D K : Nat} {x : AC} {st : List Fr} {w : World}
/-- The last stores of a step. -/
theorem step_tailW (A : AutW w own a f D K x) (n0 n : NW) :
    (Instr.storeAt 69 (.pointer (some ⟨w.heap.size, 0, none⟩)) (.agg n.cells)).run Try.prog (w.alloc (.cells n0.cells 69)) = .ok () ((w.alloc (.cells n0.cells 69)).setRow w.heap.size n.cells) ∧
    ∀ w4, (w.alloc (.cells n0.cells 69)).setRow w.heap.size n.cells = w4 → (w4.cell? ⟨a, 15, none⟩ = some (.int .i64 x.handed) ∧ w4.frozen? ⟨a, 15, none⟩ = false) ∧
    ∀ h w5, w4.setCell ⟨a, 15, none⟩ (.int .i64 h) = w5 → (w5.cell? ⟨a, 17, none⟩ = some (.int .i64 x.wrong) ∧ w5.frozen? ⟨a, 17, none⟩ = false) ∧
    ∀ k w6, w5.setCell ⟨a, 17, none⟩ (.int .i64 k) = w6 → AutW w6 own a f D K { x with handed := h, wrong := k } ∧ Blk w6 w.heap.size 69 n.cells ∧ Wi (SA own a) w w6 := by
  have b : Blk (w.alloc (.cells n0.cells 69)) w.heap.size 69 n0.cells := Blk.fresh _ _ _
  have S := below_alloc w (.cells n0.cells 69)
  have hlt : a < w.heap.size := A.blk.lt
  have fr : ¬ SA own a w.heap.size := fun hm => by
    rcases hm with e | hm
    · omega
    · have := A.lo _ hm; omega
  refine ⟨nw_store b n, fun w4 h4 => ?_⟩
  have o4 : Only w.heap.size (w.alloc (.cells n0.cells 69)) w4 := h4 ▸ only_row _ _
  have A4 := (A.on S).only o4 fr
  have b4 : Blk w4 w.heap.size 69 n.cells := h4 ▸ b.setRow _
  have W4 : Wi (SA own a) w w4 := (Wi.ofBelow S).fresh o4 (Nat.le_refl _)
  obtain ⟨_, _, _, _, _, c15, _, _, fz⟩ := au_cells A4.blk
  refine ⟨⟨c15, fz 15⟩, fun h w5 h5 => ?_⟩
  have o5 : Only a w4 w5 := h5 ▸ (Only.refl a w4).put 15 _
  have b5 : Blk w5 a 64 { x with handed := h }.cells := h5 ▸ A4.blk.put 15 _
  have A5 : AutW w5 own a f D K { x with handed := h } := A4.ofA o5 b5 rfl
  have n5 := b4.only o5 (by omega)
  obtain ⟨_, _, _, _, _, _, _, c17, fz5⟩ := au_cells A5.blk
  refine ⟨⟨c17, fz5 17⟩, fun k w6 h6 => ?_⟩
  have o6 : Only a w5 w6 := h6 ▸ (Only.refl a w5).put 17 _
  have b6 : Blk w6 a 64 { x with handed := h, wrong := k }.cells := h6 ▸ A5.blk.put 17 _
  exact ⟨A5.ofA o6 b6 rfl, n5.only o6 (by omega), (W4.trans (.saO o5)).trans (.saO o6)⟩
theorem step_tail (A : Aut w own a f D K st x) (n0 n : NW) :
    (Instr.storeAt 69 (.pointer (some ⟨w.heap.size, 0, none⟩)) (.agg n.cells)).run Try.prog (w.alloc (.cells n0.cells 69)) = .ok () ((w.alloc (.cells n0.cells 69)).setRow w.heap.size n.cells) ∧
    ∀ w4, (w.alloc (.cells n0.cells 69)).setRow w.heap.size n.cells = w4 → (w4.cell? ⟨a, 15, none⟩ = some (.int .i64 x.handed) ∧ w4.frozen? ⟨a, 15, none⟩ = false) ∧
    ∀ h w5, w4.setCell ⟨a, 15, none⟩ (.int .i64 h) = w5 → (w5.cell? ⟨a, 17, none⟩ = some (.int .i64 x.wrong) ∧ w5.frozen? ⟨a, 17, none⟩ = false) ∧
    ∀ k w6, w5.setCell ⟨a, 17, none⟩ (.int .i64 k) = w6 → Aut w6 own a f D K st { x with handed := h, wrong := k } ∧ Blk w6 w.heap.size 69 n.cells ∧ Wi (SA own a) w w6 := by
  have b : Blk (w.alloc (.cells n0.cells 69)) w.heap.size 69 n0.cells := Blk.fresh _ _ _
  have S := below_alloc w (.cells n0.cells 69)
  have hlt : a < w.heap.size := A.blk.lt
  have fr : ¬ SA own a w.heap.size := A.freshA (Nat.le_refl _)
  refine ⟨nw_store b n, fun w4 h4 => ?_⟩
  have o4 : Only w.heap.size (w.alloc (.cells n0.cells 69)) w4 := h4 ▸ only_row _ _
  have A4 := (A.on S).only o4 fr
  have b4 : Blk w4 w.heap.size 69 n.cells := h4 ▸ b.setRow _
  have W4 : Wi (SA own a) w w4 := (Wi.ofBelow S).fresh o4 (Nat.le_refl _)
  obtain ⟨_, _, _, _, _, c15, _, _, fz⟩ := au_cells A4.blk
  refine ⟨⟨c15, fz 15⟩, fun h w5 h5 => ?_⟩
  have o5 : Only a w4 w5 := h5 ▸ (Only.refl a w4).put 15 _
  have b5 : Blk w5 a 64 { x with handed := h }.cells := h5 ▸ A4.blk.put 15 _
  have A5 : Aut w5 own a f D K st { x with handed := h } := A4.ofA o5 b5 rfl rfl rfl
  have n5 := b4.only o5 (by omega)
  obtain ⟨_, _, _, _, _, _, _, c17, fz5⟩ := au_cells A5.blk
  refine ⟨⟨c17, fz5 17⟩, fun k w6 h6 => ?_⟩
  have o6 : Only a w5 w6 := h6 ▸ (Only.refl a w5).put 17 _
  have b6 : Blk w6 a 64 { x with handed := h, wrong := k }.cells := h6 ▸ A5.blk.put 17 _
  exact ⟨A5.ofA o6 b6 rfl rfl rfl, n5.only o6 (by omega), (W4.trans (.saO o5)).trans (.saO o6)⟩
end
/-- What Step answers where something is wrong. -/
def StepE (own : Nat → Nat) (a f D K i : Nat) (k : Int) (e : Ending) (w' : World) : Prop :=
  e = .returned (.int .i64 k) ∧ ∃ x', AutW w' own a f D K x' ∧ x'.handed = (i : Int) + 1 ∧ x'.wrong = k
/-- .. where nothing is. -/
def StepO (own : Nat → Nat) (a f D K i : Nat) (s : AQ) (x : AC) (c : Int) (e : Ending) (w' : World) : Prop :=
  e = .returned (.int .i64 0) ∧ ∃ s' x', (fstep D K i s c).next = some s' ∧ Aut w' own a f D K s'.st x' ∧ AM s' x' ∧ x'.handed = (i : Int) + 1 ∧ x'.S = x.S
set_option maxRecDepth 4000 in
set_option maxHeartbeats 1000000 in
/-- Whoever is told: where something is wrong nobody is. -/
theorem auto_Step_err (w : World) (own : Nat → Nat) (a f D K i : Nat) (s : AQ) (x : AC) (c : Int) (V : Value) (h : Aut w own a f D K s.st x) (hO : AOk D K s) (hM : AM s x) (h0 : 0 ≤ c) (h1 : c < 256) (hi : x.handed = i) (hi2 : (i : Int) < 4611686018427387904) (hk : stepK x.S i (fstep D K i s c) ≠ 0) :
    Calls Try.prog 11 #[.pointer (some ⟨a, 0, none⟩), .int .u8 c, V] w fun e w' => StepE own a f D K i (stepK x.S i (fstep D K i s c)) e w' ∧ Wi (SA own a) w w' := by
  have HT := Lib.hid (take_err (c := c) w h hO hM h0 h1 hi hk)
  have c17 := (au_cells h.blk).2.2.2.2.2.2.2.1
  rw [hM.wrong] at c17
  generalize stepK x.S i (fstep D K i s c) = k at *
  have HX : Hid (∀ w2, (∃ x', AutW w2 own a f D K x' ∧ x'.handed = x.handed) → Wi (SA own a) w w2 → (Instr.storeAt 69 (.pointer (some ⟨w2.heap.size, 0, none⟩)) (.agg nw0.cells)).run Try.prog (w2.alloc (.cells nw0.cells 69)) = .ok () ((w2.alloc (.cells nw0.cells 69)).setRow w2.heap.size nw0.cells) ∧
    ∀ w4, (w2.alloc (.cells nw0.cells 69)).setRow w2.heap.size nw0.cells = w4 → (w4.cell? ⟨a, 15, none⟩ = some (.int .i64 i) ∧ w4.frozen? ⟨a, 15, none⟩ = false) ∧
    ∀ w5, w4.setCell ⟨a, 15, none⟩ (.int .i64 ((i : Int) + 1)) = w5 → ((∃ v, w5.cell? ⟨a, 17, none⟩ = some v) ∧ w5.frozen? ⟨a, 17, none⟩ = false) ∧
    StepE own a f D K i k (.returned (.int .i64 k)) (w5.setCell ⟨a, 17, none⟩ (.int .i64 k)) ∧ Wi (SA own a) w (w5.setCell ⟨a, 17, none⟩ (.int .i64 k))) := by
    rintro w2 ⟨x', A, hh⟩ hw
    obtain ⟨t1, t2⟩ := step_tailW A nw0 nw0
    refine ⟨t1, fun w4 h4 => ?_⟩
    obtain ⟨⟨t3, t4⟩, t5⟩ := t2 w4 h4
    refine ⟨⟨by rw [t3, hh, hi], t4⟩, fun w5 h5 => ?_⟩
    obtain ⟨⟨t6, t7⟩, t8⟩ := t5 _ w5 h5
    obtain ⟨t9, _, t10⟩ := t8 k _ rfl
    exact ⟨⟨⟨_, t6⟩, t7⟩, ⟨rfl, _, t9, rfl, rfl⟩, hw.trans t10⟩
  have HZ := nw_zero
  unfold ErrP at HT
  generalize nw0.cells = N0 at *
  clear h hO hM h0 h1 hi
  have hi0 : (0 : Int) ≤ (i : Int) := by omega
  generalize (i : Int) = I at *
  generalize StepE own a f D K i k = Pz at *
  go_enter Try.func11, Try.ntmps11
  go_wp2_with fail
  refine HT.out.mono ?_
  rintro e w2 ⟨⟨rfl, hx⟩, hw⟩
  obtain ⟨t1, t2⟩ := HX.out w2 hx hw
  have H1 := Lib.hid t1
  have H2 := Lib.hid (t2 _ rfl)
  clear t1 t2 hx hw HX HT
  obtain ⟨w4, hw4⟩ : ∃ w4, (w2.alloc (.cells N0 69)).setRow w2.heap.size N0 = w4 := ⟨_, rfl⟩
  rw [hw4] at H1 H2
  obtain ⟨⟨q1, q2⟩, q3⟩ := H2.out
  obtain ⟨⟨⟨v, q4⟩, q5⟩, q6⟩ := q3 _ rfl
  have HF := Lib.hid q6
  clear q3 q6 H2
  go_wp2_with ((with_reducible refine is_store 69 rfl ?_); (with_reducible refine wpList_store_run rfl rfl H1.out ?_ ?_ ?_); (· rfl); (· rfl))
  go_ret
  exact HF.out
set_option maxRecDepth 100000 in
theorem run_tell_nil (W : World) : Sem.run Try.prog (binOp .neq 49 .nilFunc .nilFunc) W = .ok (.bool false) W := rfl
set_option maxRecDepth 100000 in
theorem run_tell_func (F : Fn) (p q : Array Value) (W : World) : Sem.run Try.prog (binOp .neq 49 (.func F p q) .nilFunc) W = .ok (.bool true) W := rfl
set_option maxRecDepth 4000 in
set_option maxHeartbeats 1000000 in
theorem auto_Step0 (w : World) (own : Nat → Nat) (a f D K i : Nat) (s : AQ) (x : AC) (c : Int) (h : Aut w own a f D K s.st x) (hO : AOk D K s) (hM : AM s x) (h0 : 0 ≤ c) (h1 : c < 256) (hi : x.handed = i) (hi2 : (i : Int) < 4611686018427387904) (hk : stepK x.S i (fstep D K i s c) = 0) :
    Calls Try.prog 11 #[.pointer (some ⟨a, 0, none⟩), .int .u8 c, .nilFunc] w fun e w' => StepO own a f D K i s x c e w' ∧ Wi (SA own a) w w' := by
  have HT : Hid (Calls Try.prog 22 #[.pointer (some ⟨a, 0, none⟩), .int .u8 c] w fun e w' => ∃ n : NW, e = .returned (.tuple #[.agg n.cells, .int .i64 0]) ∧ (∃ s' x', (fstep D K i s c).next = some s' ∧ Aut w' own a f D K s'.st x' ∧ AM s' x' ∧ x'.handed = i ∧ x'.S = x.S) ∧ Wi (SA own a) w w') := by
    refine (take_ok (c := c) w h hO hM h0 h1 hi hk).mono ?_
    rintro e w' ⟨⟨s', n, x', G⟩, hw⟩
    exact ⟨n, G.ok.1, ⟨s', x', G.next, G.ok.2, G.am, G.handed.trans hi, G.S⟩, hw⟩
  have c17 := (au_cells h.blk).2.2.2.2.2.2.2.1
  rw [hM.wrong] at c17
  have HX : Hid (∀ w2 (n : NW), (∃ s' x', (fstep D K i s c).next = some s' ∧ Aut w2 own a f D K s'.st x' ∧ AM s' x' ∧ x'.handed = i ∧ x'.S = x.S) → Wi (SA own a) w w2 → (Instr.storeAt 69 (.pointer (some ⟨w2.heap.size, 0, none⟩)) (.agg n.cells)).run Try.prog (w2.alloc (.cells nw0.cells 69)) = .ok () ((w2.alloc (.cells nw0.cells 69)).setRow w2.heap.size n.cells) ∧
    ∀ w4, (w2.alloc (.cells nw0.cells 69)).setRow w2.heap.size n.cells = w4 → (w4.cell? ⟨a, 15, none⟩ = some (.int .i64 i) ∧ w4.frozen? ⟨a, 15, none⟩ = false) ∧
    ∀ w5, w4.setCell ⟨a, 15, none⟩ (.int .i64 ((i : Int) + 1)) = w5 → ((∃ v, w5.cell? ⟨a, 17, none⟩ = some v) ∧ w5.frozen? ⟨a, 17, none⟩ = false) ∧
    StepO own a f D K i s x c (.returned (.int .i64 0)) (w5.setCell ⟨a, 17, none⟩ (.int .i64 0)) ∧ Wi (SA own a) w (w5.setCell ⟨a, 17, none⟩ (.int .i64 0))) := by
    rintro w2 n ⟨s', x', hn, A, hm, hh, hS⟩ hw
    obtain ⟨t1, t2⟩ := step_tail A nw0 n
    refine ⟨t1, fun w4 h4 => ?_⟩
    obtain ⟨⟨t3, t4⟩, t5⟩ := t2 w4 h4
    refine ⟨⟨by rw [t3, hh], t4⟩, fun w5 h5 => ?_⟩
    obtain ⟨⟨t6, t7⟩, t8⟩ := t5 _ w5 h5
    obtain ⟨t9, _, t10⟩ := t8 0 _ rfl
    exact ⟨⟨⟨_, t6⟩, t7⟩, ⟨rfl, s', _, hn, t9, ⟨hm.ctl, hm.hq, hm.hok, hm.hu, rfl⟩, rfl, hS⟩, hw.trans t10⟩
  have HZ := nw_zero
  generalize nw0.cells = N0 at *
  clear h hO hM h0 h1 hi hk
  generalize StepO own a f D K i s x c = Pz at *
  have hi0 : (0 : Int) ≤ (i : Int) := by omega
  generalize (i : Int) = I at *
  have RN := run_tell_nil
  go_enter Try.func11, Try.ntmps11
  go_wp2_with fail
  refine HT.out.mono ?_
  rintro e w2 ⟨n, rfl, hx, hw⟩
  obtain ⟨t1, t2⟩ := HX.out w2 n hx hw
  have H1 := Lib.hid t1
  have H2 := Lib.hid (t2 _ rfl)
  clear t1 t2 hx hw HX HT
  generalize n.cells = N2 at *
  obtain ⟨w4, hw4⟩ : ∃ w4, (w2.alloc (.cells N0 69)).setRow w2.heap.size N2 = w4 := ⟨_, rfl⟩
  rw [hw4] at H1 H2
  obtain ⟨⟨q1, q2⟩, q3⟩ := H2.out
  obtain ⟨⟨⟨v, q4⟩, q5⟩, q6⟩ := q3 _ rfl
  have HF := Lib.hid q6
  clear q3 q6 H2
  go_wp2_with ((with_reducible refine is_store 69 rfl ?_); (with_reducible refine wpList_store_run rfl rfl H1.out ?_ ?_ ?_); (· rfl); (· rfl))
  go_ret
  exact HF.out
end Go.Proofs.Ytmclmfhimdppjaa
