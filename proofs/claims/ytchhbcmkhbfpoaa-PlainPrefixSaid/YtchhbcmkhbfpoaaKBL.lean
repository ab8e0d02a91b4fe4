/- Package auto: Step, that tells nobody. -/
import Derived.Test.YtchhbcmkhbfpoaaKBK
import Derived.Test.YtchhbcmkhbfpoaaKAS
import Derived.Test.YtchhbcmkhbfpoaaKBC
import Derived.Test.YtchhbcmkhbfpoaaKAX
namespace Go.Proofs.Ytchhbcmkhbfpoaa
open Go.RowKit

/-- What a byte comes to: the error, or none. -/
def stepK (S : Int) (i : Nat) (o : Out) : Int := if S ≤ i then 1 else match o.notes with
  | [] => 0
  | m :: _ => m.2
theorem stepK_pos {S : Int} {D K i : Nat} {s : AQ} {c : Int} : stepK S i (fstep D K i s c) = 0 ∨ (1 ≤ stepK S i (fstep D K i s c) ∧ stepK S i (fstep D K i s c) ≤ 7) := by
  unfold stepK
  split
  · exact .inr ⟨by decide, by decide⟩
  · split
    · exact .inl rfl
    · next m r hm =>
      have := (fstep_notes (D := D) (K := K) i s c).2.1 m (by rw [hm]; exact List.mem_cons_self)
      exact .inr ⟨by omega, this.2.2⟩
theorem stepK_ok {S : Int} {D K i : Nat} {s : AQ} {c : Int} (h : stepK S i (fstep D K i s c) = 0) : ¬ S ≤ i ∧ (fstep D K i s c).notes = [] := by
  unfold stepK at h
  split at h
  · cases h
  · next hs =>
    split at h
    · next hn => exact ⟨hs, hn⟩
    · next m r hm =>
      have := (fstep_notes (D := D) (K := K) i s c).2.1 m (by rw [hm]; exact List.mem_cons_self)
      omega
theorem lok_of {D K : Nat} {s : AQ} (h : AOk D K s) : LOk s.st := fun y hy => ⟨(h.frs y hy).left0, (h.frs y hy).left1⟩
section
variable {own : Nat → Nat} {a f D K i : Nat} {x : AC} {s : AQ} {c : Int}
theorem auto_takeP (w : World) (h : Aut w own a f D K s.st x) (hO : AOk D K s) (hM : AM s x) (h0 : 0 ≤ c) (h1 : c < 256) :
    Calls Try.prog 27 #[.pointer (some ⟨a, 0, none⟩), .int .u8 c] w fun e w' => TakeW own a f D K s.st x c e w' ∧ Wi (SA own a) w w' := by
  have ht : 0 ≤ x.text ∧ x.text < 18446744073709551616 ∧ (0 < x.text → x.q.opn = false) := by
    obtain ⟨st, k⟩ := s
    have hc := hM.ctl
    rcases hO.ctl with ⟨q, e, _, _⟩ | ⟨n, t, u, e, n1, n2, _, _⟩ | ⟨e, _⟩
    · dsimp only at e; subst e
      obtain ⟨ct, _, _⟩ := hc
      exact ⟨by omega, by omega, fun h => by omega⟩
    · dsimp only at e; subst e
      obtain ⟨ct, _, _, _, co⟩ := hc
      exact ⟨by omega, by omega, fun _ => co⟩
    · dsimp only at e; subst e
      obtain ⟨_, ct⟩ := hc
      exact ⟨by omega, by omega, fun h => by omega⟩
  exact auto_take w own a f D K s.st x c h (lok_of hO) h0 h1 hM.hq hM.hok ht.1 ht.2.1 ht.2.2 hM.hu
theorem take_err (w : World) (h : Aut w own a f D K s.st x) (hO : AOk D K s) (hM : AM s x) (h0 : 0 ≤ c) (h1 : c < 256) (hi : x.handed = i) (hk : stepK x.S i (fstep D K i s c) ≠ 0) :
    Calls Try.prog 27 #[.pointer (some ⟨a, 0, none⟩), .int .u8 c] w fun e w' => ErrP own a f D K x (stepK x.S i (fstep D K i s c)) e w' ∧ Wi (SA own a) w w' := by
  refine (auto_takeP w h hO hM h0 h1).mono ?_
  rintro e w' ⟨hp, hw⟩
  refine ⟨?_, hw⟩
  by_cases hS : x.S ≤ x.handed
  · have : stepK x.S i (fstep D K i s c) = 1 := by unfold stepK; rw [if_pos (by omega)]
    rw [this]
    exact hp.big hS
  · rcases take_plain (i := i) hO hM h0 h1 hp hS with ⟨k, ⟨m, r, q1, q2⟩, q3⟩ | ⟨hn, _⟩
    · have : stepK x.S i (fstep D K i s c) = k := by unfold stepK; rw [if_neg (by omega), q1]; exact q2
      rw [this]
      exact q3
    · exact absurd (by unfold stepK; rw [if_neg (by omega), hn]) hk
theorem take_ok (w : World) (h : Aut w own a f D K s.st x) (hO : AOk D K s) (hM : AM s x) (h0 : 0 ≤ c) (h1 : c < 256) (hi : x.handed = i) (hk : stepK x.S i (fstep D K i s c) = 0) :
    Calls Try.prog 27 #[.pointer (some ⟨a, 0, none⟩), .int .u8 c] w fun e w' => (∃ s' n x', Goes1 own a f D K i s x c s' n x' e w') ∧ Wi (SA own a) w w' := by
  obtain ⟨k1, k2⟩ := stepK_ok hk
  refine (auto_takeP w h hO hM h0 h1).mono ?_
  rintro e w' ⟨hp, hw⟩
  refine ⟨?_, hw⟩
  rcases take_plain (i := i) hO hM h0 h1 hp (by omega) with ⟨k, ⟨m, r, q1, q2⟩, q3⟩ | ⟨hn, q⟩
  · rw [k2] at q1; cases q1
  · exact q
end
section
variable {own : Nat → Nat} {a f D K : Nat} {x : AC} {st : List Fr} {w : World}
/-- The last stores of a step. -/
theorem step_tailW (A : AutW w own a f D K x) (n0 n : NW) :
    (Instr.storeAt 78 (.pointer (some ⟨w.heap.size, 0, none⟩)) (.agg n.cells)).run Try.prog (w.alloc (.cells n0.cells 78)) = .ok () ((w.alloc (.cells n0.cells 78)).setRow w.heap.size n.cells) ∧
    ∀ w4, (w.alloc (.cells n0.cells 78)).setRow w.heap.size n.cells = w4 → (w4.cell? ⟨a, 15, none⟩ = some (.int .i64 x.handed) ∧ w4.frozen? ⟨a, 15, none⟩ = false) ∧
    ∀ h w5, w4.setCell ⟨a, 15, none⟩ (.int .i64 h) = w5 → (w5.cell? ⟨a, 17, none⟩ = some (.int .i64 x.wrong) ∧ w5.frozen? ⟨a, 17, none⟩ = false) ∧
    ∀ k w6, w5.setCell ⟨a, 17, none⟩ (.int .i64 k) = w6 → AutW w6 own a f D K { x with handed := h, wrong := k } ∧ Blk w6 w.heap.size 78 n.cells ∧ Wi (SA own a) w w6 := by
  have b : Blk (w.alloc (.cells n0.cells 78)) w.heap.size 78 n0.cells := Blk.fresh _ _ _
  have S := below_alloc w (.cells n0.cells 78)
  have hlt : a < w.heap.size := A.blk.lt
  have fr : ¬ SA own a w.heap.size := fun hm => by
    rcases hm with e | hm
    · omega
    · have := A.lo _ hm; omega
  refine ⟨nw_store b n, fun w4 h4 => ?_⟩
  have o4 : Only w.heap.size (w.alloc (.cells n0.cells 78)) w4 := h4 ▸ only_row _ _
  have A4 := (A.on S).only o4 fr
  have b4 : Blk w4 w.heap.size 78 n.cells := h4 ▸ b.setRow _
  have W4 : Wi (SA own a) w w4 := (Wi.ofBelow S).fresh o4 (Nat.le_refl _)
  obtain ⟨_, _, _, _, _, c15, _, _, fz⟩ := au_cells A4.blk
  refine ⟨⟨c15, fz 15⟩, fun h w5 h5 => ?_⟩
  have o5 : Only a w4 w5 := h5 ▸ (Only.refl a w4).put 15 _
  have b5 : Blk w5 a 73 { x with handed := h }.cells := h5 ▸ A4.blk.put 15 _
  have A5 : AutW w5 own a f D K { x with handed := h } := A4.ofA o5 b5 rfl
  have n5 := b4.only o5 (by omega)
  obtain ⟨_, _, _, _, _, _, _, c17, fz5⟩ := au_cells A5.blk
  refine ⟨⟨c17, fz5 17⟩, fun k w6 h6 => ?_⟩
  have o6 : Only a w5 w6 := h6 ▸ (Only.refl a w5).put 17 _
  have b6 : Blk w6 a 73 { x with handed := h, wrong := k }.cells := h6 ▸ A5.blk.put 17 _
  exact ⟨A5.ofA o6 b6 rfl, n5.only o6 (by omega), (W4.trans (.saO o5)).trans (.saO o6)⟩
theorem step_tail (A : Aut w own a f D K st x) (n0 n : NW) :
    (Instr.storeAt 78 (.pointer (some ⟨w.heap.size, 0, none⟩)) (.agg n.cells)).run Try.prog (w.alloc (.cells n0.cells 78)) = .ok () ((w.alloc (.cells n0.cells 78)).setRow w.heap.size n.cells) ∧
    ∀ w4, (w.alloc (.cells n0.cells 78)).setRow w.heap.size n.cells = w4 → (w4.cell? ⟨a, 15, none⟩ = some (.int .i64 x.handed) ∧ w4.frozen? ⟨a, 15, none⟩ = false) ∧
    ∀ h w5, w4.setCell ⟨a, 15, none⟩ (.int .i64 h) = w5 → (w5.cell? ⟨a, 17, none⟩ = some (.int .i64 x.wrong) ∧ w5.frozen? ⟨a, 17, none⟩ = false) ∧
    ∀ k w6, w5.setCell ⟨a, 17, none⟩ (.int .i64 k) = w6 → Aut w6 own a f D K st { x with handed := h, wrong := k } ∧ Blk w6 w.heap.size 78 n.cells ∧ Wi (SA own a) w w6 := by
  have b : Blk (w.alloc (.cells n0.cells 78)) w.heap.size 78 n0.cells := Blk.fresh _ _ _
  have S := below_alloc w (.cells n0.cells 78)
  have hlt : a < w.heap.size := A.blk.lt
  have fr : ¬ SA own a w.heap.size := A.freshA (Nat.le_refl _)
  refine ⟨nw_store b n, fun w4 h4 => ?_⟩
  have o4 : Only w.heap.size (w.alloc (.cells n0.cells 78)) w4 := h4 ▸ only_row _ _
  have A4 := (A.on S).only o4 fr
  have b4 : Blk w4 w.heap.size 78 n.cells := h4 ▸ b.setRow _
  have W4 : Wi (SA own a) w w4 := (Wi.ofBelow S).fresh o4 (Nat.le_refl _)
  obtain ⟨_, _, _, _, _, c15, _, _, fz⟩ := au_cells A4.blk
  refine ⟨⟨c15, fz 15⟩, fun h w5 h5 => ?_⟩
  have o5 : Only a w4 w5 := h5 ▸ (Only.refl a w4).put 15 _
  have b5 : Blk w5 a 73 { x with handed := h }.cells := h5 ▸ A4.blk.put 15 _
  have A5 : Aut w5 own a f D K st { x with handed := h } := A4.ofA o5 b5 rfl rfl rfl
  have n5 := b4.only o5 (by omega)
  obtain ⟨_, _, _, _, _, _, _, c17, fz5⟩ := au_cells A5.blk
  refine ⟨⟨c17, fz5 17⟩, fun k w6 h6 => ?_⟩
  have o6 : Only a w5 w6 := h6 ▸ (Only.refl a w5).put 17 _
  have b6 : Blk w6 a 73 { x with handed := h, wrong := k }.cells := h6 ▸ A5.blk.put 17 _
  exact ⟨A5.ofA o6 b6 rfl rfl rfl, n5.only o6 (by omega), (W4.trans (.saO o5)).trans (.saO o6)⟩
end
/-- What Step answers where something is wrong. -/
def StepE (own : Nat → Nat) (a f D K i : Nat) (k : Int) (e : Ending) (w' : World) : Prop :=
  e = .returned (.int .i64 k) ∧ ∃ x', AutW w' own a f D K x' ∧ x'.handed = (i : Int) + 1 ∧ x'.wrong = k
/-- .. where nothing is. -/
def StepO (own : Nat → Nat) (a f D K i : Nat) (s : AQ) (x : AC) (c : Int) (e : Ending) (w' : World) : Prop :=
  e = .returned (.int .i64 0) ∧ ∃ s' x', (fstep D K i s c).next = some s' ∧ Aut w' own a f D K s'.st x' ∧ AM s' x' ∧ x'.handed = (i : Int) + 1 ∧ x'.S = x.S
set_option maxRecDepth 4000 in
set_option maxHeartbeats 1000000 in
/-- Whoever is told: where something is wrong nobody is. -/
theorem auto_Step_err (w : World) (own : Nat → Nat) (a f D K i : Nat) (s : AQ) (x : AC) (c : Int) (V : Value) (h : Aut w own a f D K s.st x) (hO : AOk D K s) (hM : AM s x) (h0 : 0 ≤ c) (h1 : c < 256) (hi : x.handed = i) (hi2 : (i : Int) < 4611686018427387904) (hk : stepK x.S i (fstep D K i s c) ≠ 0) :
    Calls Try.prog 11 #[.pointer (some ⟨a, 0, none⟩), .int .u8 c, V] w fun e w' => StepE own a f D K i (stepK x.S i (fstep D K i s c)) e w' ∧ Wi (SA own a) w w' := by
  have HT := Lib.hid (take_err (c := c) w h hO hM h0 h1 hi hk)
  have c17 := (au_cells h.blk).2.2.2.2.2.2.2.1
  rw [hM.wrong] at c17
  generalize stepK x.S i (fstep D K i s c) = k at *
  have HX : Hid (∀ w2, (∃ x', AutW w2 own a f D K x' ∧ x'.handed = x.handed) → Wi (SA own a) w w2 → (Instr.storeAt 78 (.pointer (some ⟨w2.heap.size, 0, none⟩)) (.agg nw0.cells)).run Try.prog (w2.alloc (.cells nw0.cells 78)) = .ok () ((w2.alloc (.cells nw0.cells 78)).setRow w2.heap.size nw0.cells) ∧
    ∀ w4, (w2.alloc (.cells nw0.cells 78)).setRow w2.heap.size nw0.cells = w4 → (w4.cell? ⟨a, 15, none⟩ = some (.int .i64 i) ∧ w4.frozen? ⟨a, 15, none⟩ = false) ∧
    ∀ w5, w4.setCell ⟨a, 15, none⟩ (.int .i64 ((i : Int) + 1)) = w5 → ((∃ v, w5.cell? ⟨a, 17, none⟩ = some v) ∧ w5.frozen? ⟨a, 17, none⟩ = false) ∧
    StepE own a f D K i k (.returned (.int .i64 k)) (w5.setCell ⟨a, 17, none⟩ (.int .i64 k)) ∧ Wi (SA own a) w (w5.setCell ⟨a, 17, none⟩ (.int .i64 k))) := by
    rintro w2 ⟨x', A, hh⟩ hw
    obtain ⟨t1, t2⟩ := step_tailW A nw0 nw0
    refine ⟨t1, fun w4 h4 => ?_⟩
    obtain ⟨⟨t3, t4⟩, t5⟩ := t2 w4 h4
    refine ⟨⟨by rw [t3, hh, hi], t4⟩, fun w5 h5 => ?_⟩
    obtain ⟨⟨t6, t7⟩, t8⟩ := t5 _ w5 h5
    obtain ⟨t9, _, t10⟩ := t8 k _ rfl
    exact ⟨⟨⟨_, t6⟩, t7⟩, ⟨rfl, _, t9, rfl, rfl⟩, hw.trans t10⟩
  have HZ := nw_zero
  unfold ErrP at HT
  generalize nw0.cells = N0 at *
  clear h hO hM h0 h1 hi
  have hi0 : (0 : Int) ≤ (i : Int) := by omega
  generalize (i : Int) = I at *
  generalize StepE own a f D K i k = Pz at *
  go_enter Try.func11, Try.ntmps11
  go_wp2_with fail
  refine HT.out.mono ?_
  rintro e w2 ⟨⟨rfl, hx⟩, hw⟩
  obtain ⟨t1, t2⟩ := HX.out w2 hx hw
  have H1 := Lib.hid t1
  have H2 := Lib.hid (t2 _ rfl)
  clear t1 t2 hx hw HX HT
  obtain ⟨w4, hw4⟩ : ∃ w4, (w2.alloc (.cells N0 78)).setRow w2.heap.size N0 = w4 := ⟨_, rfl⟩
  rw [hw4] at H1 H2
  obtain ⟨⟨q1, q2⟩, q3⟩ := H2.out
  obtain ⟨⟨⟨v, q4⟩, q5⟩, q6⟩ := q3 _ rfl
  have HF := Lib.hid q6
  clear q3 q6 H2
  go_wp2_with ((with_reducible refine is_store 78 rfl ?_); (with_reducible refine wpList_store_run rfl rfl H1.out ?_ ?_ ?_); (· rfl); (· rfl))
  go_ret
  exact HF.out
set_option maxRecDepth 100000 in
theorem run_tell_nil (W : World) : Sem.run Try.prog (binOp .neq 49 .nilFunc .nilFunc) W = .ok (.bool false) W := rfl
set_option maxRecDepth 100000 in
theorem run_tell_func (F : Fn) (p q : Array Value) (W : World) : Sem.run Try.prog (binOp .neq 49 (.func F p q) .nilFunc) W = .ok (.bool true) W := rfl
set_option maxRecDepth 4000 in
set_option maxHeartbeats 1000000 in
theorem auto_Step0 (w : World) (own : Nat → Nat) (a f D K i : Nat) (s : AQ) (x : AC) (c : Int) (h : Aut w own a f D K s.st x) (hO : AOk D K s) (hM : AM s x) (h0 : 0 ≤ c) (h1 : c < 256) (hi : x.handed = i) (hi2 : (i : Int) < 4611686018427387904) (hk : stepK x.S i (fstep D K i s c) = 0) :
    Calls Try.prog 11 #[.pointer (some ⟨a, 0, none⟩), .int .u8 c, .nilFunc] w fun e w' => StepO own a f D K i s x c e w' ∧ Wi (SA own a) w w' := by
  have HT : Hid (Calls Try.prog 27 #[.pointer (some ⟨a, 0, none⟩), .int .u8 c] w fun e w' => ∃ n : NW, e = .returned (.tuple #[.agg n.cells, .int .i64 0]) ∧ (∃ s' x', (fstep D K i s c).next = some s' ∧ Aut w' own a f D K s'.st x' ∧ AM s' x' ∧ x'.handed = i ∧ x'.S = x.S) ∧ Wi (SA own a) w w') := by
    refine (take_ok (c := c) w h hO hM h0 h1 hi hk).mono ?_
    rintro e w' ⟨⟨s', n, x', G⟩, hw⟩
    exact ⟨n, G.ok.1, ⟨s', x', G.next, G.ok.2, G.am, G.handed.trans hi, G.S⟩, hw⟩
  have c17 := (au_cells h.blk).2.2.2.2.2.2.2.1
  rw [hM.wrong] at c17
  have HX : Hid (∀ w2 (n : NW), (∃ s' x', (fstep D K i s c).next = some s' ∧ Aut w2 own a f D K s'.st x' ∧ AM s' x' ∧ x'.handed = i ∧ x'.S = x.S) → Wi (SA own a) w w2 → (Instr.storeAt 78 (.pointer (some ⟨w2.heap.size, 0, none⟩)) (.agg n.cells)).run Try.prog (w2.alloc (.cells nw0.cells 78)) = .ok () ((w2.alloc (.cells nw0.cells 78)).setRow w2.heap.size n.cells) ∧
    ∀ w4, (w2.alloc (.cells nw0.cells 78)).setRow w2.heap.size n.cells = w4 → (w4.cell? ⟨a, 15, none⟩ = some (.int .i64 i) ∧ w4.frozen? ⟨a, 15, none⟩ = false) ∧
    ∀ w5, w4.setCell ⟨a, 15, none⟩ (.int .i64 ((i : Int) + 1)) = w5 → ((∃ v, w5.cell? ⟨a, 17, none⟩ = some v) ∧ w5.frozen? ⟨a, 17, none⟩ = false) ∧
    StepO own a f D K i s x c (.returned (.int .i64 0)) (w5.setCell ⟨a, 17, none⟩ (.int .i64 0)) ∧ Wi (SA own a) w (w5.setCell ⟨a, 17, none⟩ (.int .i64 0))) := by
    rintro w2 n ⟨s', x', hn, A, hm, hh, hS⟩ hw
    obtain ⟨t1, t2⟩ := step_tail A nw0 n
    refine ⟨t1, fun w4 h4 => ?_⟩
    obtain ⟨⟨t3, t4⟩, t5⟩ := t2 w4 h4
    refine ⟨⟨by rw [t3, hh], t4⟩, fun w5 h5 => ?_⟩
    obtain ⟨⟨t6, t7⟩, t8⟩ := t5 _ w5 h5
    obtain ⟨t9, _, t10⟩ := t8 0 _ rfl
    exact ⟨⟨⟨_, t6⟩, t7⟩, ⟨rfl, s', _, hn, t9, ⟨hm.ctl, hm.hq, hm.hok, hm.hu, rfl⟩, rfl, hS⟩, hw.trans t10⟩
  have HZ := nw_zero
  generalize nw0.cells = N0 at *
  clear h hO hM h0 h1 hi hk
  generalize StepO own a f D K i s x c = Pz at *
  have hi0 : (0 : Int) ≤ (i : Int) := by omega
  generalize (i : Int) = I at *
  have RN := run_tell_nil
  go_enter Try.func11, Try.ntmps11
  go_wp2_with fail
  refine HT.out.mono ?_
  rintro e w2 ⟨n, rfl, hx, hw⟩
  obtain ⟨t1, t2⟩ := HX.out w2 n hx hw
  have H1 := Lib.hid t1
  have H2 := Lib.hid (t2 _ rfl)
  clear t1 t2 hx hw HX HT
  generalize n.cells = N2 at *
  obtain ⟨w4, hw4⟩ : ∃ w4, (w2.alloc (.cells N0 78)).setRow w2.heap.size N2 = w4 := ⟨_, rfl⟩
  rw [hw4] at H1 H2
  obtain ⟨⟨q1, q2⟩, q3⟩ := H2.out
  obtain ⟨⟨⟨v, q4⟩, q5⟩, q6⟩ := q3 _ rfl
  have HF := Lib.hid q6
  clear q3 q6 H2
  go_wp2_with ((with_reducible refine is_store 78 rfl ?_); (with_reducible refine wpList_store_run rfl rfl H1.out ?_ ?_ ?_); (· rfl); (· rfl))
  go_ret
  exact HF.out
end Go.Proofs.Ytchhbcmkhbfpoaa

/- Package auto: Close, New, Whole. -/
namespace Go.Proofs.Ytchhbcmkhbfpoaa
open Go.RowKit

/-- A verdict's cells. -/
def vcells (v : Int × Int) : Array Value := #[.int .i64 v.1, .int .i64 v.2]
theorem vd_zero : ∀ w, (zeroValue 51).run Try.prog w = .ok (.agg (vcells (0, 0))) w := (zero_of_info (n := 2) (by kernel_rfl)).1
theorem vd_info : (Try.prog.info? 51).map (·.size) = some 2 := by kernel_rfl
theorem vd_one (e p : Int) : (#[Value.int IntKind.i64 e, Value.int IntKind.i64 p] : Array Value).all (·.oneCell') = true := by
  rw [Array.all_eq_true_iff_forall_mem]
  intro x hx
  simp at hx
  rcases hx with rfl | rfl <;> rfl
def closeV (x : AC) : Int × Int := if x.wrong ≠ 0 then (x.wrong, x.handed - 1) else if x.done then (0, 0) else (9, x.handed)
set_option maxRecDepth 4000 in
theorem auto_Close (w : World) (a : Nat) (x : AC) (h : Blk w a 73 x.cells) (h0 : 0 ≤ x.handed) (h1 : x.handed < 4611686018427387905) :
    Calls Try.prog 15 #[.pointer (some ⟨a, 0, none⟩)] w fun e w' => e = .returned (.agg (vcells (closeV x))) ∧ Below w.heap.size w w' := by
  have hne : a ≠ w.heap.size := by have := h.lt; omega
  have S := below_alloc w (.cells #[.int .i64 0, .int .i64 0] 51)
  obtain ⟨_, _, _, _, _, c15, c16, c17, _⟩ := au_cells (h.on S)
  have b : Blk (w.alloc (.cells #[.int .i64 0, .int .i64 0] 51)) w.heap.size 51 #[.int .i64 0, .int .i64 0] := Blk.fresh _ _ _
  have HZ := vd_zero
  unfold vcells at HZ ⊢
  dsimp only at HZ ⊢
  have HS := Lib.hid S
  obtain ⟨w1, hw1⟩ : ∃ w1, w.alloc (.cells #[.int .i64 0, .int .i64 0] 51) = w1 := ⟨_, rfl⟩
  rw [hw1] at c15 c16 c17 b HS
  obtain ⟨D, K, SS, s, q, tx, u, hd, dn, wr⟩ := x
  dsimp only at c15 c16 c17 h0 h1
  by_cases hw : wr = 0
  · subst hw
    cases dn with
    | true =>
      have e : closeV ⟨D, K, SS, s, q, tx, u, hd, true, 0⟩ = (0, 0) := rfl
      rw [e]
      have b2 := b.setRow #[.int .i64 0, .int .i64 0]
      have HS2 := Lib.hid (below_row HS.out (Nat.le_refl _) #[.int .i64 0, .int .i64 0])
      have HSt := Lib.hid (run_store_all (P := Try.prog) (ty := 51) (c' := #[.int .i64 0, .int .i64 0]) b vd_info rfl (vd_one _ _))
      have HB2 := Lib.hid b2
      clear h S b b2 e
      go_enter Try.func15, Try.ntmps15
      go_wp2_with ((with_reducible refine is_store 51 rfl ?_); (with_reducible refine wpList_store_run rfl rfl HSt.out ?_ ?_ ?_); (· rfl); (· rfl))
      refine bodyPost_ret (results_blk rfl _ rfl HB2.out Try.underlying51 rfl vd_info) rfl ?_
      exact ⟨rfl, HS2.out⟩
    | false =>
      have e : closeV ⟨D, K, SS, s, q, tx, u, hd, false, 0⟩ = (9, hd) := rfl
      rw [e]
      have b2 := b.setRow #[.int .i64 9, .int .i64 hd]
      have HS2 := Lib.hid (below_row HS.out (Nat.le_refl _) #[.int .i64 9, .int .i64 hd])
      have HSt := Lib.hid (run_store_all (P := Try.prog) (ty := 51) (c' := #[.int .i64 9, .int .i64 hd]) b vd_info rfl (vd_one _ _))
      have HB2 := Lib.hid b2
      clear h S b b2 e
      go_enter Try.func15, Try.ntmps15
      go_wp2_with ((with_reducible refine is_store 51 rfl ?_); (with_reducible refine wpList_store_run rfl rfl HSt.out ?_ ?_ ?_); (· rfl); (· rfl))
      refine bodyPost_ret (results_blk rfl _ rfl HB2.out Try.underlying51 rfl vd_info) rfl ?_
      exact ⟨rfl, HS2.out⟩
  · have e : closeV ⟨D, K, SS, s, q, tx, u, hd, dn, wr⟩ = (wr, hd - 1) := if_pos hw
    rw [e]
    have HX : Hid (∀ q, (Instr.storeAt 51 (.pointer (some ⟨w.heap.size, 0, none⟩)) (.agg #[.int .i64 wr, .int .i64 (hd - 1)])).run Try.prog (w1.drewN q) = .ok () ((w1.drewN q).setRow w.heap.size #[.int .i64 wr, .int .i64 (hd - 1)]) ∧ Blk ((w1.drewN q).setRow w.heap.size #[.int .i64 wr, .int .i64 (hd - 1)]) w.heap.size 51 #[.int .i64 wr, .int .i64 (hd - 1)] ∧ Below w.heap.size w ((w1.drewN q).setRow w.heap.size #[.int .i64 wr, .int .i64 (hd - 1)])) := fun q => by
      have b' : Blk (w1.drewN q) w.heap.size 51 #[.int .i64 0, .int .i64 0] := b.drewN q
      exact ⟨run_store_all b' vd_info rfl (vd_one _ _), b'.setRow _, below_row (below_drawnN HS.out q) (Nat.le_refl _) _⟩
    have q1 : IntKind.i64.wrap (hd - 1) = hd - 1 := by rw [IntWalk.i64_in _ (by omega)]
    clear h S b e
    go_enter Try.func15, Try.ntmps15
    go_wp2_with fail
    refine wp_region_quiet_tail 10 (by kernel_rfl) (by kernel_rfl) ?_
    simp only [List.take_succ_cons, List.take_zero, List.drop_succ_cons, List.drop_zero]
    repeat (quiet_step (fail))
    refine wpQuiet_nil ?_
    rintro _ ⟨q0, rfl⟩
    obtain ⟨r1, r2, r3⟩ := HX.out q0
    have H1 := Lib.hid r1
    have H2 := Lib.hid r2
    have H3 := Lib.hid r3
    clear r1 r2 r3 HX
    go_wp2_with ((with_reducible refine is_store 51 rfl ?_); (with_reducible refine wpList_store_run rfl rfl H1.out ?_ ?_ ?_); (· rfl); (· rfl))
    refine bodyPost_ret (results_blk rfl _ rfl H2.out Try.underlying51 rfl vd_info) rfl ?_
    exact ⟨rfl, H3.out⟩

def ac0 (D K : Nat) (S : Int) (s : Nat) : AC := ⟨D, K, S, s, hq0, 0, uq0, 0, false, 0⟩
theorem am_zero (D K : Nat) (S : Int) (s : Nat) : AM aq0 (ac0 D K S s) := ⟨⟨rfl, rfl, .inl rfl⟩, .zero, hok_zero, Nat.zero_le _, rfl⟩
theorem au_zero : ∀ w, (zeroValue 73).run Try.prog w = .ok (.agg #[.int .i64 0, .int .i64 0, .int .i64 0, .pointer none, .int .i64 0, .int .i64 0, .int .u64 0, .int .i64 0, .bool false, .int .i64 0, .int .u64 0, .int .i64 0, .int .u8 0, .int .u8 0, .bool false, .int .i64 0, .bool false, .int .i64 0]) w := (zero_of_info (n := 18) (by kernel_rfl)).1
/-- A new automaton. -/
def NewP (D K : Nat) (S : Int) (w : World) (e : Ending) (w' : World) : Prop :=
  ∃ own a s f, e = .returned (.tuple #[.pointer (some ⟨a, 0, none⟩), .int .i64 0]) ∧ Aut w' own a f D K [] (ac0 D K S s) ∧ w.heap.size ≤ a ∧ (∀ j, own j ≠ 0 → w.heap.size ≤ j) ∧ Below w.heap.size w w'
set_option maxRecDepth 100000 in
set_option maxHeartbeats 4000000 in
theorem auto_New (w : World) (D K : Nat) (S : Int) (h1 : 1 ≤ D) (h2 : D ≤ 64) (k1 : 1 ≤ K) (k2 : K ≤ 1024) (s1 : 1 ≤ S) (s2 : S ≤ 2305843009213693951) :
    Calls Try.prog 6 #[vL D K S] w fun e w' => NewP D K S w e w' := by
  obtain ⟨w1, hw1, b1, S1⟩ := iblk1 w 24 #[.int .i64 D, .int .i64 K, .int .i64 S]
  obtain ⟨p0, p1, p2⟩ := lblk b1
  have hr : rightR D K S = 0 := by unfold rightR; rw [if_pos (rightL_true.2 ⟨by omega, by omega, by omega, by omega, s1, s2⟩)]
  have HC := Lib.hid (limit_Check D K S w1)
  rw [hr] at HC
  have HN := Lib.hid (fun v => frame_New v D K h1 h2 k1 k2)
  have HX : Hid (∀ w2 w5 own s f, Below w1.heap.size w1 w2 → StkR w5 own s f D K [] → (∀ j, own j ≠ 0 → w2.heap.size ≤ j ∧ j < w5.heap.size) → Below w2.heap.size w2 w5 →
      (w5.cell? ⟨w.heap.size, 0, none⟩ = some (.int .i64 D) ∧ w5.cell? ⟨w.heap.size, 1, none⟩ = some (.int .i64 K) ∧ w5.cell? ⟨w.heap.size, 2, none⟩ = some (.int .i64 S)) ∧
      NewP D K S w (.returned (.tuple #[.pointer (some ⟨w5.heap.size, 0, none⟩), .int .i64 0])) (w5.alloc (.cells #[.int .i64 D, .int .i64 K, .int .i64 S, .pointer (some ⟨s, 0, none⟩), .int .i64 0, .int .i64 0, .int .u64 0, .int .i64 0, .bool false, .int .i64 0, .int .u64 0, .int .i64 0, .int .u8 0, .int .u8 0, .bool false, .int .i64 0, .bool false, .int .i64 0] 73))) := fun w2 w5 own s f hb hs hl hb5 => by
    have h15 : Below w1.heap.size w1 w5 := hb.trans (hb5.mono hb.size)
    obtain ⟨c0, c1, c2⟩ := lblk (b1.on h15)
    have hw5 : Below w.heap.size w w5 := S1.trans (h15.mono S1.size)
    have hsz := hb.size
    have hsz1 := S1.size
    have hsz5 := hw5.size
    have hA := below_alloc w5 (.cells #[.int .i64 D, .int .i64 K, .int .i64 S, .pointer (some ⟨s, 0, none⟩), .int .i64 0, .int .i64 0, .int .u64 0, .int .i64 0, .bool false, .int .i64 0, .int .u64 0, .int .i64 0, .int .u8 0, .int .u8 0, .bool false, .int .i64 0, .bool false, .int .i64 0] 73)
    refine ⟨⟨c0, c1, c2⟩, own, w5.heap.size, s, f, rfl, ⟨Blk.fresh _ _ _, hs.on hA, ?_, rfl, rfl, fun j hj => Nat.lt_of_lt_of_le (hl j hj).2 hA.size⟩, hsz5, fun j hj => by have := (hl j hj).1; omega, hw5.trans (hA.mono hsz5)⟩
    apply Classical.byContradiction
    intro hn
    have := (hl _ hn).2
    omega
  have HZ := au_zero
  have hfol : Try.prog.follows Departure.mixedOrders = true := by kernel_rfl
  have HB1 := Lib.hid b1
  have HDw : Hid (∀ v : World, Below v.heap.size v v.drew) := fun v => below_drawn (Below.refl _ _)
  unfold vL
  clear S1 hr b1 h1 h2 k1 k2 s1 s2
  generalize NewP D K S w = Pz at *
  go_enter Try.func6, Try.ntmps6
  go_wp2_with fail
  refine HC.out.mono ?_
  rintro e w2 ⟨rfl, hb2⟩
  have HB2 := Lib.hid hb2
  obtain ⟨p0, p1, p2⟩ := lblk (HB1.out.on hb2)
  clear hb2 HC
  go_wp2_with fail
  go_region_with (go_at_call 23; refine (HN.out _).mono ?_; rintro e w5 ⟨own, s, f, rfl, hs, hl, hb⟩; obtain ⟨⟨u0, u1, u2⟩, u3⟩ := HX.out w2.drew w5 own s f (HB2.out.trans ((HDw.out w2).mono HB2.out.size)) hs hl hb; have HY := Lib.hid u3; clear hs hl hb u3)
  all_goals
    go_wp2_with fail
    refine bodyPost_ret (results_tmp2 rfl _ _ _) rfl ?_
    exact HY.out
theorem auto_New_bad (w : World) (d k s : Int) (h : rightL d k s = false) :
    Calls Try.prog 6 #[vL d k s] w fun e w' => e = .returned (.tuple #[.pointer none, .int .i64 15]) ∧ Below w.heap.size w w' := by
  obtain ⟨w1, hw1, b1, S1⟩ := iblk1 w 24 #[.int .i64 d, .int .i64 k, .int .i64 s]
  obtain ⟨p0, p1, p2⟩ := lblk b1
  have HC := Lib.hid (limit_Check d k s w1)
  rw [show rightR d k s = 15 by unfold rightR; rw [if_neg (by rw [h]; decide)]] at HC
  have HS := Lib.hid S1
  unfold vL at HC ⊢
  clear S1 b1 h
  go_enter Try.func6, Try.ntmps6
  go_wp2_with fail
  refine HC.out.mono ?_
  rintro e w2 ⟨rfl, hb2⟩
  have HB2 := Lib.hid (HS.out.trans (hb2.mono HS.out.size))
  clear hb2 HC
  go_wp2_with fail
  refine bodyPost_ret (results_tmp2 rfl _ _ _) rfl ?_
  exact ⟨rfl, HB2.out⟩
end Go.Proofs.Ytchhbcmkhbfpoaa

/- Package auto: Whole. -/
namespace Go.Proofs.Ytchhbcmkhbfpoaa
open Go.RowKit

/-- The verdict of bytes. -/
noncomputable def wv (D K : Nat) (S : Int) (L : List Int) : Int × Int := ((svrd D K S.toNat 0 aq0 L).1, ((svrd D K S.toNat 0 aq0 L).2 : Int))
section
variable {D K : Nat} {S : Int} {i : Nat} {s : AQ} {c : Int} {r : List Int}
theorem svrd_err (hS : 0 ≤ S) (h : stepK S i (fstep D K i s c) ≠ 0) : svrd D K S.toNat i s (c :: r) = (stepK S i (fstep D K i s c), i) := by
  rw [svrd_cons]
  unfold stepK at h ⊢
  by_cases hs : S ≤ i
  · rw [if_pos (by omega), if_pos hs]
  · rw [if_neg (by omega), if_neg hs]
    rw [if_neg hs] at h
    cases hn : (fstep D K i s c).notes with
    | nil => rw [hn] at h; exact absurd rfl h
    | cons m t => rfl
theorem svrd_ok {s' : AQ} (hS : 0 ≤ S) (h : stepK S i (fstep D K i s c) = 0) (hn : (fstep D K i s c).next = some s') : svrd D K S.toNat i s (c :: r) = svrd D K S.toNat (i + 1) s' r := by
  obtain ⟨h1, h2⟩ := stepK_ok h
  rw [svrd_cons, if_neg (by omega), h2, hn]
end
theorem aok_next {D K i : Nat} {s s' : AQ} {c S : Int} (h : AOk D K s) (h0 : 0 ≤ c) (h1 : c < 256) (hk : stepK S i (fstep D K i s c) = 0) (hn : (fstep D K i s c).next = some s') : AOk D K s' := by
  obtain ⟨s2, h2, h3⟩ := h.step (i := i) h0 h1 (stepK_ok hk).2
  rw [hn] at h2
  injection h2 with h2
  subst h2
  exact h3
set_option maxRecDepth 100000 in
set_option maxHeartbeats 1000000 in
theorem auto_Whole (w : World) (A : Option Addr) (cap : Nat) (L : List Int) (D K : Nat) (S : Int) (hr : Rd w w.heap.size .u8 A L) (hb : ByteL L) (hlen : L.length ≤ 1000000000) (h1 : 1 ≤ D) (h2 : D ≤ 64) (k1 : 1 ≤ K) (k2 : K ≤ 1024) (s1 : 1 ≤ S) (s2 : S ≤ 2305843009213693951) :
    Calls Try.prog 21 #[.slice A L.length cap, vL D K S] w fun e w' => e = .returned (.agg (vcells (wv D K S L))) ∧ Below w.heap.size w w' := by
  obtain ⟨w1, hw1, b1, S1⟩ := iblk1 w 24 #[.int .i64 D, .int .i64 K, .int .i64 S]
  have hsz1 : w1.heap.size = w.heap.size + 1 := by rw [← hw1]; simp
  obtain ⟨w2, hw2, b2, S2⟩ := iblk1 w1 51 #[.int .i64 0, .int .i64 0]
  rw [hsz1] at b2
  have b1' := b1.on S2
  obtain ⟨p0, p1, p2⟩ := lblk b1'
  have S12 : Below w.heap.size w w2 := S1.trans (S2.mono S1.size)
  have hsz2 : w2.heap.size = w.heap.size + 2 := by rw [← hw2]; simp [hsz1]
  have HN := Lib.hid (auto_New w2 D K S h1 h2 k1 k2 s1 s2)
  have HZ := vd_zero
  -- what comes behind New
  have HX : Hid (∀ w3 own a s f, Aut w3 own a f D K [] (ac0 D K S s) → w2.heap.size ≤ a → (∀ j, own j ≠ 0 → w2.heap.size ≤ j) → Below w2.heap.size w2 w3 →
      (∀ j, SA own a j → w.heap.size + 2 ≤ j) ∧ Blk w3 (w.heap.size + 1) 51 #[.int .i64 0, .int .i64 0] ∧ Below w.heap.size w w3 ∧ w.heap.size + 2 ≤ w3.heap.size ∧ Rd w3 w.heap.size .u8 A L) := fun w3 own a s f hA ha ho hb3 => by
    have hbw : Below w.heap.size w w3 := S12.trans (hb3.mono (by omega))
    refine ⟨fun j hj => ?_, b2.on hb3, hbw, by have := hb3.size; omega, hr.below hbw⟩
    rcases hj with rfl | hj
    · omega
    · have := ho j hj; omega
  have HLen : Hid ((L.length : Int) ≤ 1000000000) := by show _ ≤ _; omega
  have HBL := Lib.hid hb
  have HS0 : Hid (0 ≤ S) := by show _ ≤ _; omega
  clear S1 S2 S12 b1 b2 b1' hr hb hsz2 hlen h1 h2 k1 k2 s1 s2
  unfold vL at HN ⊢
  unfold vcells at HZ ⊢
  dsimp only at HZ ⊢
  generalize hN : (L.length : Int) = N at *
  have HN2 := Lib.hid hN
  go_enter Try.func21, Try.ntmps21
  go_wp2_with fail
  refine HN.out.mono ?_
  rintro e w3 ⟨own, a, s, f, rfl, hA, ha, ho, hb3⟩
  obtain ⟨hSA, bV, hb, hsz, hrd⟩ := HX.out w3 own a s f hA ha ho hb3
  have HSA := Lib.hid hSA
  have HBV := Lib.hid bV
  have HB := Lib.hid hb
  have HSZ := Lib.hid hsz
  have HRD := Lib.hid hrd
  have HA := Lib.hid hA
  have HRES : Hid (∀ w' e p, Below w.heap.size w w' → Blk w' (w.heap.size + 1) 51 #[.int .i64 0, .int .i64 0] → (Instr.storeAt 51 (.pointer (some ⟨w.heap.size + 1, 0, none⟩)) (.agg #[.int .i64 e, .int .i64 p])).run Try.prog w' = .ok () (w'.setRow (w.heap.size + 1) #[.int .i64 e, .int .i64 p]) ∧ Blk (w'.setRow (w.heap.size + 1) #[.int .i64 e, .int .i64 p]) (w.heap.size + 1) 51 #[.int .i64 e, .int .i64 p] ∧ Below w.heap.size w (w'.setRow (w.heap.size + 1) #[.int .i64 e, .int .i64 p])) := fun w' e p hb' bV' =>
    ⟨run_store_all bV' vd_info rfl (vd_one _ _), bV'.setRow _, below_row hb' (by omega) _⟩
  -- behind the loop: a verdict
  have HCL : Hid (∀ wr, Wi (SA own a) w3 wr → Below w.heap.size w wr ∧ Blk wr (w.heap.size + 1) 51 #[.int .i64 0, .int .i64 0] ∧ Rd wr w.heap.size .u8 A L ∧ w.heap.size + 2 ≤ wr.heap.size) := fun wr hw => by
    have hb2 : Below (w.heap.size + 2) w3 wr := hw.below HSA.out HSZ.out
    exact ⟨HB.out.trans (hb2.mono (by omega)), HBV.out.below hb2 (by omega), HRD.out.below (hb2.mono (by omega)), by have := hw.size; have := HSZ.out; omega⟩
  clear hSA bV hb hsz hrd hA ha ho hb3 HX HN HZ
  go_wp2_with fail
  go_loopw [20] (fun i wr => ∃ (k : Nat) (sq : AQ) (x : AC), (k : Int) ≤ N ∧ i = .int .i64 k ∧ Aut wr own a f D K sq.st x ∧ AM sq x ∧ AOk D K sq ∧ x.handed = k ∧ x.S = S ∧ svrd D K S.toNat 0 aq0 L = svrd D K S.toNat k sq (L.drop k) ∧ Wi (SA own a) w3 wr) (fun i _ => L.length - (intOf i).toNat)
  case atStart => exact ⟨0, aq0, _, by have := HN2.out; omega, rfl, HA.out, am_zero D K S s, AOk.zero D K, rfl, rfl, rfl, Wi.refl⟩
  case round =>
    obtain ⟨k, sq, x, hk, rfl, hAu, hM, hO, hh, hS, hv, hW⟩ := hrel
    obtain ⟨cB, cV, cR, cZ⟩ := HCL.out wr hW
    by_cases hlt : (k : Int) < N
    · have hltn : k < L.length := by have := HN2.out; omega
      obtain ⟨b, o, rfl, hbb, hcell⟩ := cR.get hltn
      have hc := HBL.out (L.getD k 0) (by rw [List.getD_eq_getElem?_getD, List.getElem?_eq_getElem hltn]; exact List.getElem_mem hltn)
      have hdr : L.drop k = L.getD k 0 :: L.drop (k + 1) := by
        rw [List.drop_eq_getElem_cons hltn]
        simp [List.getD_eq_getElem?_getD, hltn]
      generalize L.getD k 0 = c at *
      rw [hdr] at hv
      have hk0 : (0 : Int) ≤ k := by omega
      have hkm : (k : Int) < 4611686018427387904 := by have := HLen.out; omega
      by_cases hst : stepK x.S k (fstep D K k sq c) = 0
      · have HT : Hid (Calls Try.prog 11 #[.pointer (some ⟨a, 0, none⟩), .int .u8 c, .nilFunc] wr fun e w' => e = .returned (.int .i64 0) ∧ (∃ sq' x', Aut w' own a f D K sq'.st x' ∧ AM sq' x' ∧ AOk D K sq' ∧ x'.handed = ((k + 1 : Nat) : Int) ∧ x'.S = S ∧ svrd D K S.toNat 0 aq0 L = svrd D K S.toNat (k + 1) sq' (L.drop (k + 1))) ∧ Wi (SA own a) w3 w') := by
          refine (auto_Step0 wr own a f D K k sq x c hAu hO hM hc.1 hc.2 hh hkm hst).mono ?_
          rintro e w' ⟨⟨rfl, s', x', hn, hA', hM', hh', hS'⟩, hw⟩
          refine ⟨rfl, ⟨s', x', hA', hM', aok_next hO hc.1 hc.2 hst hn, by rw [hh']; omega, hS'.trans hS, ?_⟩, hW.trans hw⟩
          rw [hv]
          exact svrd_ok HS0.out (hS ▸ hst) hn
        have hNL := HN2.out
        clear hAu hM hO hh hS hv hW cB cV cR cZ hdr hc hst HA HCL HRES HSA HBV HB HSZ HRD
        go_wp2_with fail
        refine HT.out.mono ?_
        rintro e w5 ⟨rfl, hx, hw5⟩
        have HXX := Lib.hid hx
        have HWW := Lib.hid hw5
        clear hx hw5 HT
        go_wp2_with fail
        go_roundw
        case rel =>
          obtain ⟨sq', x', y1, y2, y3, y4, y5, y6⟩ := HXX.out
          exact ⟨k + 1, sq', x', by omega, by go_num, y1, y2, y3, y4, y5, y6, HWW.out⟩
        case measure => simp [intOf]; omega
      · have HT : Hid (Calls Try.prog 11 #[.pointer (some ⟨a, 0, none⟩), .int .u8 c, .nilFunc] wr fun e w' => ∃ k', e = .returned (.int .i64 k') ∧ k' ≠ 0 ∧ (∃ x' : AC, Blk w' a 73 x'.cells ∧ x'.handed = (k : Int) + 1 ∧ x'.wrong = k' ∧ wv D K S L = (k', (k : Int))) ∧ Wi (SA own a) w3 w') := by
          refine (auto_Step_err wr own a f D K k sq x c .nilFunc hAu hO hM hc.1 hc.2 hh hkm hst).mono ?_
          rintro e w' ⟨⟨rfl, x', hA', hh', hw'⟩, hw⟩
          refine ⟨_, rfl, hst, ⟨x', hA'.blk, hh', hw', ?_⟩, hW.trans hw⟩
          unfold wv
          rw [hv, svrd_err HS0.out (hS ▸ hst), hS]
        have hNL := HN2.out
        have HCL2 := Lib.hid HCL.out
        clear hAu hM hO hh hS hv hW cB cV cR cZ hdr hc hst HA HCL HSA HBV HB HSZ HRD
        go_wp2_with fail
        refine HT.out.mono ?_
        rintro e w5 ⟨k', rfl, hk', ⟨x', hx1, hx2, hx3, hx4⟩, hw5⟩
        obtain ⟨g1, g2, _, _⟩ := HCL2.out w5 hw5
        have HCo : Hid (Calls Try.prog 15 #[.pointer (some ⟨a, 0, none⟩)] w5 fun e w' => e = .returned (.agg #[.int .i64 k', .int .i64 k]) ∧ (Below w.heap.size w w' ∧ Blk w' (w.heap.size + 1) 51 #[.int .i64 0, .int .i64 0])) := by
          refine (auto_Close w5 a x' hx1 (by omega) (by omega)).mono ?_
          rintro e w' ⟨rfl, hb⟩
          refine ⟨?_, g1.trans (hb.mono g1.size), g2.on hb⟩
          unfold closeV
          rw [if_pos (by rw [hx3]; exact hk'), hx3, hx2]
          unfold vcells
          simp
        have HWV := Lib.hid hx4
        clear hx1 hx2 hx3 hx4 hw5 g1 g2 HT HCL2 hkm hk0 hNL hltn hk hlt
        generalize (k : Int) = kI at *
        go_wp2_with fail
        refine HCo.out.mono ?_
        rintro e w6 ⟨rfl, b6, v6⟩
        obtain ⟨r1, r2, r3⟩ := HRES.out w6 k' kI b6 v6
        have H1 := Lib.hid r1
        have H2 := Lib.hid r2
        have H3 := Lib.hid r3
        clear r1 r2 r3 b6 v6 HRES HCo
        go_wp2_with ((with_reducible refine is_store 51 rfl ?_); (with_reducible refine wpList_store_run rfl rfl H1.out ?_ ?_ ?_); (· rfl); (· rfl))
        refine bodyPost_ret (results_blk rfl _ rfl H2.out Try.underlying51 rfl vd_info) rfl ?_
        rw [HWV.out]
        exact ⟨rfl, H3.out⟩
    · have hkl : k = L.length := by have := HN2.out; omega
      have hdr : L.drop k = [] := by rw [hkl, List.drop_length]
      rw [hdr] at hv
      have HCo : Hid (∃ e0 p0 : Int, wv D K S L = (e0, p0) ∧ Calls Try.prog 15 #[.pointer (some ⟨a, 0, none⟩)] wr fun e w' => e = .returned (.agg #[.int .i64 e0, .int .i64 p0]) ∧ (Below w.heap.size w w' ∧ Blk w' (w.heap.size + 1) 51 #[.int .i64 0, .int .i64 0])) := by
        have hcl := auto_Close wr a x hAu.blk (by omega) (by have := HLen.out; omega)
        have hwv : wv D K S L = closeV x := by
          unfold wv closeV
          rw [hv, if_neg (by rw [hM.wrong]; simp)]
          unfold svrd
          have hc := hM.ctl
          obtain ⟨st, ct⟩ := sq
          unfold AQ.isFin
          cases ct with
          | head q => obtain ⟨_, cd, _⟩ := hc; rw [cd]; simp [hh]
          | text n t u => obtain ⟨_, cd, _⟩ := hc; rw [cd]; simp [hh]
          | ended => exact absurd hc (fun h => h)
          | fin => obtain ⟨cd, _⟩ := hc; rw [cd]; simp
        refine ⟨(closeV x).1, (closeV x).2, hwv, hcl.mono ?_⟩
        rintro e w' ⟨rfl, hb⟩
        exact ⟨rfl, cB.trans (hb.mono cB.size), cV.on hb⟩
      obtain ⟨e0, p0, hwv, hcl⟩ := HCo.out
      have HWV := Lib.hid hwv
      have HC2 := Lib.hid hcl
      clear hAu hM hO hh hS hv hW cB cV cR cZ hdr hkl HCo hwv hcl HA HCL HSA HBV HB HSZ HRD
      go_wp2_with fail
      refine HC2.out.mono ?_
      rintro e w6 ⟨rfl, b6, v6⟩
      obtain ⟨r1, r2, r3⟩ := HRES.out w6 e0 p0 b6 v6
      have H1 := Lib.hid r1
      have H2 := Lib.hid r2
      have H3 := Lib.hid r3
      clear r1 r2 r3 b6 v6 HRES HC2
      go_wp2_with ((with_reducible refine is_store 51 rfl ?_); (with_reducible refine wpList_store_run rfl rfl H1.out ?_ ?_ ?_); (· rfl); (· rfl))
      refine bodyPost_ret (results_blk rfl _ rfl H2.out Try.underlying51 rfl vd_info) rfl ?_
      rw [HWV.out]
      exact ⟨rfl, H3.out⟩
end Go.Proofs.Ytchhbcmkhbfpoaa

/- The document's verdict (layer 14), and what it says of the item (layer 15). -/
namespace Go.Proofs.Ytchhbcmkhbfpoaa
open Go.RowKit

theorem sc_lenB (L : List Int) (D K S : Nat) (hl : L.length ≤ 300) : (scNotes L D K S).length ≤ 1000000000 := by
  obtain ⟨x1, x2, x3, x4⟩ := (bd_item (B := L) D K (L.length + 1) 0 1 false (Nat.zero_le _) (by omega)).toBd
  have e : scItem L D K (L.length + 1) 0 1 false = scTop L D K := rfl
  rw [e] at x1 x2 x3 x4
  have h : (scTop L D K).notes.length ≤ 2000 := by
    cases ho : (scTop L D K).ok with
    | true => have := x3 ho; omega
    | false => have := x4 ho; omega
  unfold scNotes
  rw [List.length_append, List.length_append]
  have h1 : ∀ (P : Prop) [Decidable P] (x : Note), (if P then [x] else []).length ≤ 1 := fun P _ x => by split <;> simp
  have := h1 ((scTop L D K).ok = true ∧ (scTop L D K).to < L.length) ((scTop L D K).to, 2)
  have := h1 (S < L.length) (S, 1)
  omega
theorem wv_some {D K : Nat} {S : Int} {L : List Int} {m : Note} (h : firstN none (scNotes L D K S.toNat) = some m) : wv D K S L = (m.2, (m.1 : Int)) := by
  unfold wv
  rw [verdict_eq, h]
theorem wv_none {D K : Nat} {S : Int} {L : List Int} (h : firstN none (scNotes L D K S.toNat) = none) : wv D K S L = if (scTop L D K).ok then (0, 0) else (9, (L.length : Int)) := by
  unfold wv
  rw [verdict_eq, h]
  cases (scTop L D K).ok <;> rfl
set_option maxRecDepth 4000 in
set_option maxHeartbeats 1000000 in
theorem ref_Verdict (w : World) (A : Option Addr) (cap : Nat) (L : List Int) (D K : Nat) (S : Int) (hr : Rd w w.heap.size .u8 A L) (hb : ByteL L) (hl : L.length ≤ 300) (hcp : L.length ≤ cap) (hD : D ≤ 64) (hK : K ≤ 1024) (hS : 1 ≤ S) :
    Calls Try.prog 18 #[.slice A L.length cap, vL D K S] w fun e w' => e = .returned (.tuple #[.int .i64 (wv D K S L).1, .int .i64 (wv D K S L).2]) ∧ Below w.heap.size w w' := by
  obtain ⟨w1, hw1, b1, S1⟩ := iblk1 w 24 #[.int .i64 D, .int .i64 K, .int .i64 S]
  obtain ⟨p0, p1, p2⟩ := lblk b1
  have HRun := Lib.hid (ref_Run w1 A cap L D K S ((hr.below S1).more S1.size) hb hl hcp hD hK hS)
  have HS1 := Lib.hid S1
  have HN := Lib.hid (fun _ : Unit => sc_lenB L D K S.toNat hl)
  have hsome := fun m h => wv_some (D := D) (K := K) (S := S) (L := L) (m := m) h
  have hnone := fun h => wv_none (D := D) (K := K) (S := S) (L := L) h
  have HV := Lib.hid (And.intro hsome hnone)
  unfold vL at HRun ⊢
  clear hr hb hl hcp hD hK hS b1 S1 hsome hnone
  go_enter Try.func18, Try.ntmps18
  go_wp2_with fail
  refine HRun.out.mono ?_
  rintro e w2 ⟨B, g, rfl, hsc, hB1, hB2, hb2⟩
  have HF := Lib.hid (ref_ScanFirst w2 _ _ _ _ _ _ _ _ _ _ hsc (HN.out ()))
  have HB2 := Lib.hid (HS1.out.trans (hb2.mono HS1.out.size))
  clear hsc hB1 hB2 hb2 HRun HN p0 p1 p2
  obtain ⟨fo, hfo⟩ : ∃ fo, firstN none (scNotes L D K S.toNat) = fo := ⟨_, rfl⟩
  rw [hfo] at HF HV
  obtain ⟨okb, hok⟩ : ∃ z : Bool, (scTop L D K).ok = z := ⟨_, rfl⟩
  obtain ⟨ti, hti⟩ : ∃ z : Int, ((scTop L D K).to : Int) = z := ⟨_, rfl⟩
  rw [hok] at HV
  clear hfo
  go_wp2_with fail
  refine HF.out.mono ?_
  rintro e w3 ⟨rfl, hb3⟩
  have HB3 := Lib.hid (HB2.out.trans (hb3.mono HB2.out.size))
  clear hb3 HF HB2 hok hti
  cases fo with
  | some m =>
    have hv := HV.out.1 m rfl
    have HVV := Lib.hid hv
    simp only [oAt, oE, Option.isSome]
    generalize (m.1 : Int) = m1 at *
    generalize m.2 = m2 at *
    clear hv HV
    go_wp2_with fail
    refine bodyPost_ret (results_tmp2 rfl _ _ _) rfl ?_
    refine ⟨?_, HB3.out⟩
    rw [HVV.out]
    rfl
  | none =>
    have hv := HV.out.2 rfl
    have HVV := Lib.hid hv
    simp only [oAt, oE, Option.isSome]
    clear hv HV
    cases okb with
    | true =>
      go_wp2_with fail
      refine bodyPost_ret (results_tmp2 rfl _ _ _) rfl ?_
      refine ⟨?_, HB3.out⟩
      rw [HVV.out]
      rfl
    | false =>
      go_wp2_with fail
      refine bodyPost_ret (results_tmp2 rfl _ _ _) rfl ?_
      refine ⟨?_, HB3.out⟩
      rw [HVV.out]
      rfl
/-- What the document's verdict lets through is an item. -/
theorem prs_verdict {D K : Nat} {S : Int} {L : List Int} (hb : ByteL L) (h : (wv D K S L).1 = 0) : ∃ x, prs L (L.length + 1) 0 = some (x, L.length) := by
  rcases firstN_none (scNotes L D K S.toNat) with ⟨hn, hf⟩ | ⟨m, hf, hm, hl⟩
  · rw [wv_none hf] at h
    cases ho : (scTop L D K).ok with
    | false => rw [ho] at h; simp at h
    | true =>
      unfold scNotes at hn
      obtain ⟨n1, n2⟩ := List.append_eq_nil_iff.1 hn
      obtain ⟨n3, _⟩ := List.append_eq_nil_iff.1 n2
      have hbd := (bd_item (B := L) D K (L.length + 1) 0 1 false (Nat.zero_le _) (by omega)).toBd
      have e : scItem L D K (L.length + 1) 0 1 false = scTop L D K := rfl
      rw [e] at hbd
      have hto : (scTop L D K).to = L.length := by
        have := hbd.hi
        apply Classical.byContradiction
        intro hne
        rw [if_pos ⟨ho, by omega⟩] at n3
        cases n3
      obtain ⟨x, hx⟩ := prs_scan D K hb (L.length + 1) 0 1 false (Nat.zero_le _) (by omega) ho n1
      rw [e, hto] at hx
      exact ⟨x, hx⟩
  · rw [wv_some hf] at h
    have := (first_lt hm hl).2
    dsimp only at h
    omega
end Go.Proofs.Ytchhbcmkhbfpoaa

/- Package plain: Prefix. -/
namespace Go.Proofs.Ytchhbcmkhbfpoaa
open Go.RowKit

section
variable {D K : Nat} {S : Int} {L : List Int}
/-- The state behind the first bytes, none of them wrong. -/
def Pre (D K : Nat) (S : Int) (L : List Int) (k : Nat) (s : AQ) : Prop := ∀ X, svrd D K S.toNat 0 aq0 (L.take k ++ X) = svrd D K S.toNat k s X
/-- No beginning up to here is an item. -/
def Not0 (D K : Nat) (S : Int) (L : List Int) (k : Nat) : Prop := ∀ j, 1 ≤ j → j ≤ k → (wv D K S (L.take j)).1 ≠ 0
theorem pre_zero : Pre D K S L 0 aq0 := fun X => by rw [List.take_zero, List.nil_append]
theorem take_one {k : Nat} (hk : k < L.length) : L.take (k + 1) = L.take k ++ [L.getD k 0] := by
  rw [List.take_succ_eq_append_getElem hk, List.getD_eq_getElem?_getD, List.getElem?_eq_getElem hk]
  rfl
theorem pre_next {k : Nat} {s s' : AQ} (h : Pre D K S L k s) (hk : k < L.length) (hS : 0 ≤ S) (h0 : stepK S k (fstep D K k s (L.getD k 0)) = 0) (hn : (fstep D K k s (L.getD k 0)).next = some s') : Pre D K S L (k + 1) s' := fun X => by
  rw [take_one hk, List.append_assoc, h, List.singleton_append]
  exact svrd_ok hS h0 hn
theorem pre_wv {k : Nat} {s : AQ} (h : Pre D K S L k s) : wv D K S (L.take k) = if s.isFin then (0, 0) else (9, (k : Int)) := by
  unfold wv
  have := h []
  rw [List.append_nil] at this
  rw [this]
  unfold svrd
  cases s.isFin <;> rfl
theorem pre_err {k : Nat} {s : AQ} (h : Pre D K S L k s) (hk : k < L.length) (hS : 0 ≤ S) (h0 : stepK S k (fstep D K k s (L.getD k 0)) ≠ 0) {j : Nat} (hj : k < j) : wv D K S (L.take j) = (stepK S k (fstep D K k s (L.getD k 0)), (k : Int)) := by
  have e : L.take j = L.take k ++ (L.getD k 0 :: (L.take j).drop (k + 1)) := by
    have h1 : L.take (k + 1) = (L.take j).take (k + 1) := by rw [List.take_take, Nat.min_eq_left (by omega)]
    have h2 := List.take_append_drop (k + 1) (L.take j)
    rw [← h1, take_one hk, List.append_assoc] at h2
    exact h2.symm
  unfold wv
  rw [e, h, svrd_err hS h0]
theorem not_next {k : Nat} (h : Not0 D K S L k) (h' : (wv D K S (L.take (k + 1))).1 ≠ 0) : Not0 D K S L (k + 1) := fun j h1 h2 => by
  rcases Nat.lt_or_ge j (k + 1) with h3 | h3
  · exact h j h1 (by omega)
  · obtain rfl : j = k + 1 := by omega
    exact h'
end
end Go.Proofs.Ytchhbcmkhbfpoaa
