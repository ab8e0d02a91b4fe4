/- Package auto: a byte of a text. -/
import Derived.Test.YtchhbcmkhbfpoaaKBH
namespace Go.Proofs.Ytchhbcmkhbfpoaa
open Go.RowKit

/-- Something is wrong. -/
def ErrP (own : Nat → Nat) (a f D K : Nat) (x : AC) (k : Int) (e : Ending) (w' : World) : Prop :=
  e = .returned (.tuple #[.agg nw0.cells, .int .i64 k]) ∧ ∃ x', AutW w' own a f D K x' ∧ x'.handed = x.handed
/-- Nothing is. -/
def OkP (own : Nat → Nat) (a f D K : Nat) (n : NW) (st : List Fr) (x : AC) (e : Ending) (w' : World) : Prop :=
  e = .returned (.tuple #[.agg n.cells, .int .i64 0]) ∧ Aut w' own a f D K st x
/-- An item ends. -/
def EndP (own : Nat → Nat) (a f D K : Nat) (n : NW) (st : List Fr) (x : AC) (e : Ending) (w' : World) : Prop :=
  ((endS st).1 = false → ErrP own a f D K x 7 e w') ∧ ((endS st).1 = true → OkP own a f D K (n.over st) (endS st).2.2 { x with done := (endS st).2.1 } e w')
/-- The automaton behind a text's byte. -/
def txtX (x : AC) (c : Int) : AC := { x with text := x.text - 1, u := if x.q.major = 3 then ustep x.u c else x.u }
def txtN (st : List Fr) (c : Int) : NW := ⟨2, 0, 0, 0, c, st.length + 1, 0, false⟩
/-- What is told of a text's byte. -/
def TextP (own : Nat → Nat) (a f D K : Nat) (st : List Fr) (x : AC) (c : Int) (e : Ending) (w' : World) : Prop :=
  (st.any (Fr.full K) = true → ErrP own a f D K x 4 e w') ∧
  (st.any (Fr.full K) = false → ((x.q.major = 3 ∧ won x.u (x.text - 1) c = false) → ErrP own a f D K x 6 e w') ∧
    (¬ (x.q.major = 3 ∧ won x.u (x.text - 1) c = false) →
      (1 < x.text → OkP own a f D K (txtN st c) (st.map (Fr.feeds [c])) (txtX x c) e w') ∧
      (x.text = 1 → EndP own a f D K (txtN st c) (st.map (Fr.feeds [c])) (txtX x c) e w')))
theorem lok_feeds {st : List Fr} {c : Int} (h : LOk st) : LOk (st.map (Fr.feeds [c])) := fun y hy => by
  obtain ⟨z, hz, rfl⟩ := List.mem_map.1 hy
  have := h z hz
  unfold Fr.feeds
  split <;> exact this

section
variable {w wk : World} {own : Nat → Nat} {a f D K : Nat} {st : List Fr} {x : AC} {G : Nat} {n0 : NW}
theorem tail_ok (A : Aut wk own a f D K st x) (bG : Blk wk G 78 n0.cells) (W : Wi (SA own a) w wk) (fr : ¬ SA own a G) (hG : w.heap.size ≤ G) (n : NW) :
    (Instr.storeAt 78 (.pointer (some ⟨G, 0, none⟩)) (.agg n.cells)).run Try.prog wk = .ok () (wk.setRow G n.cells) ∧ Blk (wk.setRow G n.cells) G 78 n.cells ∧ Aut (wk.setRow G n.cells) own a f D K st x ∧ Wi (SA own a) w (wk.setRow G n.cells) :=
  ⟨nw_store bG n, bG.setRow _, A.only (only_row _ _) fr, W.fresh (only_row _ _) hG⟩
theorem tail_err (A : AutW wk own a f D K x) (bG : Blk wk G 78 n0.cells) (W : Wi (SA own a) w wk) (fr : ¬ SA own a G) (hG : w.heap.size ≤ G) (n : NW) :
    (Instr.storeAt 78 (.pointer (some ⟨G, 0, none⟩)) (.agg n.cells)).run Try.prog wk = .ok () (wk.setRow G n.cells) ∧ Blk (wk.setRow G n.cells) G 78 n.cells ∧ AutW (wk.setRow G n.cells) own a f D K x ∧ Wi (SA own a) w (wk.setRow G n.cells) :=
  ⟨nw_store bG n, bG.setRow _, A.only (only_row _ _) fr, W.fresh (only_row _ _) hG⟩
theorem tail_end0 (A : Aut wk own a f D K st x) (hL : LOk st) (bG : Blk wk G 78 n0.cells) (W : Wi (SA own a) w wk) (fr : ¬ SA own a G) (hG : w.heap.size ≤ G) (n : NW) (hr : (endS st).1 = false) :
    Calls Try.prog 52 #[.pointer (some ⟨a, 0, none⟩), .agg n.cells] wk fun e w8 => e = .returned (.tuple #[.agg nw0.cells, .int .i64 7]) ∧ 
      (Instr.storeAt 78 (.pointer (some ⟨G, 0, none⟩)) (.agg nw0.cells)).run Try.prog w8 = .ok () (w8.setRow G nw0.cells) ∧ Blk (w8.setRow G nw0.cells) G 78 nw0.cells ∧ AutW (w8.setRow G nw0.cells) own a f D K x ∧ Wi (SA own a) w (w8.setRow G nw0.cells) :=
  (auto_end wk own a f D K st x n A hL).mono fun _ _ h => ⟨(h.1 hr).1, tail_err (h.1 hr).2 (h.2.2.blk bG fr) (W.trans h.2.2) fr hG nw0⟩
theorem tail_end1 (A : Aut wk own a f D K st x) (hL : LOk st) (bG : Blk wk G 78 n0.cells) (W : Wi (SA own a) w wk) (fr : ¬ SA own a G) (hG : w.heap.size ≤ G) (n : NW) (hr : (endS st).1 = true) :
    Calls Try.prog 52 #[.pointer (some ⟨a, 0, none⟩), .agg n.cells] wk fun e w8 => e = .returned (.tuple #[.agg (n.over st).cells, .int .i64 0]) ∧ 
      (Instr.storeAt 78 (.pointer (some ⟨G, 0, none⟩)) (.agg (n.over st).cells)).run Try.prog w8 = .ok () (w8.setRow G (n.over st).cells) ∧ Blk (w8.setRow G (n.over st).cells) G 78 (n.over st).cells ∧ Aut (w8.setRow G (n.over st).cells) own a f D K (endS st).2.2 { x with done := (endS st).2.1 } ∧ Wi (SA own a) w (w8.setRow G (n.over st).cells) :=
  (auto_end wk own a f D K st x n A hL).mono fun _ _ h => ⟨(h.2.1 hr).1, tail_ok (h.2.1 hr).2 (h.2.2.blk bG fr) (W.trans h.2.2) fr hG _⟩
/-- The news are laid. -/
theorem tail_news (A : Aut wk own a f D K st x) (bG : Blk wk G 78 n0.cells) (W : Wi (SA own a) w wk) (hw : w.heap.size ≤ wk.heap.size) (n : NW) :
    (Instr.storeAt 78 (.pointer (some ⟨wk.heap.size, 0, none⟩)) (.agg n.cells)).run Try.prog (wk.alloc (.cells nw0.cells 78)) = .ok () ((wk.alloc (.cells nw0.cells 78)).setRow wk.heap.size n.cells) ∧
    ∀ w7, (wk.alloc (.cells nw0.cells 78)).setRow wk.heap.size n.cells = w7 → Blk w7 wk.heap.size 78 n.cells ∧ Blk w7 G 78 n0.cells ∧ Aut w7 own a f D K st x ∧ Wi (SA own a) w w7 := by
  have b : Blk (wk.alloc (.cells nw0.cells 78)) wk.heap.size 78 nw0.cells := Blk.fresh _ _ _
  have S := below_alloc wk (.cells nw0.cells 78)
  have fr : ¬ SA own a wk.heap.size := A.freshA (Nat.le_refl _)
  have hne : G ≠ wk.heap.size := by have := bG.lt; omega
  refine ⟨nw_store b n, fun w7 h7 => ?_⟩
  subst h7
  exact ⟨b.setRow _, (bG.on S).farRow hne _, (A.on S).only (only_row _ _) fr, (W.trans (.ofBelow S)).fresh (only_row _ _) hw⟩
theorem tail_new {n0 : NW} (A : Aut wk own a f D K st x) (bG : Blk wk G 78 n0.cells) (W : Wi (SA own a) w wk) (n : NW) :
    ∀ w7, wk.alloc (.cells n.cells 78) = w7 → Blk w7 wk.heap.size 78 n.cells ∧ Blk w7 G 78 n0.cells ∧ Aut w7 own a f D K st x ∧ Wi (SA own a) w w7 := by
  intro w7 h7
  subst h7
  have S := below_alloc wk (.cells n.cells 78)
  exact ⟨Blk.fresh _ _ _, bG.on S, A.on S, W.trans (.ofBelow S)⟩
theorem run_major (m W g : Int) (w : World) : (Instr.field 40 (.agg #[.int .i64 m, .int .i64 W, .int .u64 g]) 0).run Try.prog w = .ok (.int .i64 m) w := by
  kernel_rfl
theorem txt_facts {w1 w2 : World} {xD xK xS : Int} {s : Nat} {q : HQ} {tx : Int} {u : UQ} {hd : Int} {dn : Bool} {wr : Int} {st' : List Fr} (A1 : Aut w1 own a f D K st ⟨xD, xK, xS, s, q, tx, u, hd, dn, wr⟩) (W1 : Wi (SA own a) w w1) (ho : q.opn = false) (b0 : Blk w1 G 78 n0.cells) (fr : ¬ SA own a G) (hs : StkR w2 own s f D K st') (hw : Wi (Mine own) w1 w2) :
    (w2.cell? ⟨a, 10, none⟩ = some (.int .u64 tx) ∧ w2.frozen? ⟨a, 10, none⟩ = false) ∧
        ∀ w3, w2.setCell ⟨a, 10, none⟩ (.int .u64 (tx - 1)) = w3 → Calls Try.prog 49 #[.pointer (some ⟨a, 4, none⟩)] w3 (fun e w' => e = .returned (.agg (h3cells q.major q.width q.arg)) ∧ Below w3.heap.size w3 w') ∧
        ∀ w4, Below w3.heap.size w3 w4 → Aut w4 own a f D K st' ⟨xD, xK, xS, s, q, tx - 1, u, hd, dn, wr⟩ ∧ Blk w4 G 78 n0.cells ∧ Wi (SA own a) w w4 := by
  have A2 : Aut w2 own a f D K st' ⟨xD, xK, xS, s, q, tx, u, hd, dn, wr⟩ := A1.ofS hw hs
  obtain ⟨_, _, _, _, x10, _, _, _, xz⟩ := au_cells A2.blk
  refine ⟨⟨x10, xz 10⟩, fun w3 h3 => ?_⟩
  have o3 : Only a w2 w3 := h3 ▸ (Only.refl a w2).put 10 _
  have b3' : Blk w3 a 73 (AC.mk xD xK xS s q (tx - 1) u hd dn wr).cells := by
    have := A2.blk.put 10 (.int .u64 (tx - 1))
    rw [h3] at this
    exact this
  have A3 : Aut w3 own a f D K st' ⟨xD, xK, xS, s, q, tx - 1, u, hd, dn, wr⟩ := A2.ofA o3 b3' rfl rfl rfl
  have b2 := hw.blk b0 (fun hm => fr (.inr hm))
  have b3 := b2.only o3 (fun e => fr (.inl e))
  have hF : Fd w3 a 4 73 (AC.mk xD xK xS s q (tx - 1) u hd dn wr).h0 (hcells q) (AC.mk xD xK xS s q (tx - 1) u hd dn wr).h1 := au_head b3'
  have hH := head_Head_doneO q ho w3 a hF
  exact ⟨hH, fun w4 h4 => ⟨A3.on h4, b3.on h4, ((W1.trans hw.sa).trans (.saO o3)).trans (.ofBelow h4)⟩⟩
end

section
variable {own : Nat → Nat} {a f D K : Nat} {st : List Fr} {x x2 : AC} {c : Int} {w' : World}
theorem TextP.err6 (hb : st.any (Fr.full K) = false) (h3 : x.q.major = 3) (hw : won x.u (x.text - 1) c = false) (hp : AutW w' own a f D K x2) (hh : x2.handed = x.handed) : TextP own a f D K st x c (.returned (.tuple #[.agg nw0.cells, .int .i64 6])) w' :=
  ⟨fun h => (by rw [hb] at h; cases h), fun _ => ⟨fun _ => ⟨rfl, x2, hp, hh⟩, fun h => absurd ⟨h3, hw⟩ h⟩⟩
theorem TextP.ok (hb : st.any (Fr.full K) = false) (hn : ¬ (x.q.major = 3 ∧ won x.u (x.text - 1) c = false)) (ht : 1 < x.text) (hx : txtX x c = x2) (hp : Aut w' own a f D K (st.map (Fr.feeds [c])) x2) : TextP own a f D K st x c (.returned (.tuple #[.agg (txtN st c).cells, .int .i64 0])) w' :=
  ⟨fun h => (by rw [hb] at h; cases h), fun _ => ⟨fun h => absurd h hn, fun _ => ⟨fun _ => ⟨rfl, by rw [hx]; exact hp⟩, fun h => by omega⟩⟩⟩
theorem TextP.end0 (hb : st.any (Fr.full K) = false) (hn : ¬ (x.q.major = 3 ∧ won x.u (x.text - 1) c = false)) (ht : x.text = 1) (hr : (endS (st.map (Fr.feeds [c]))).1 = false) (hh : x2.handed = x.handed) (hp : AutW w' own a f D K x2) : TextP own a f D K st x c (.returned (.tuple #[.agg nw0.cells, .int .i64 7])) w' :=
  ⟨fun h => (by rw [hb] at h; cases h), fun _ => ⟨fun h => absurd h hn, fun _ => ⟨fun h => by omega, fun _ => ⟨fun _ => ⟨rfl, x2, hp, hh⟩, fun h => by rw [hr] at h; cases h⟩⟩⟩⟩
theorem TextP.end1 (hb : st.any (Fr.full K) = false) (hn : ¬ (x.q.major = 3 ∧ won x.u (x.text - 1) c = false)) (ht : x.text = 1) (hr : (endS (st.map (Fr.feeds [c]))).1 = true) (hx : txtX x c = x2) (hp : Aut w' own a f D K (endS (st.map (Fr.feeds [c]))).2.2 { x2 with done := (endS (st.map (Fr.feeds [c]))).2.1 }) : TextP own a f D K st x c (.returned (.tuple #[.agg ((txtN st c).over (st.map (Fr.feeds [c]))).cells, .int .i64 0])) w' :=
  ⟨fun h => (by rw [hb] at h; cases h), fun _ => ⟨fun h => absurd h hn, fun _ => ⟨fun h => by omega, fun _ => ⟨fun h => (by rw [hr] at h; cases h), fun _ => ⟨rfl, by rw [hx]; exact hp⟩⟩⟩⟩⟩
end

set_option maxRecDepth 4000 in
set_option maxHeartbeats 4000000 in
theorem auto_takeText (w : World) (own : Nat → Nat) (a f D K : Nat) (st : List Fr) (x : AC) (c : Int) (h : Aut w own a f D K st x) (hL : LOk st) (h0 : 0 ≤ c) (h1 : c < 256) (ht : 1 ≤ x.text) (ht2 : x.text < 18446744073709551616) (ho : x.q.opn = false) (hu : x.u.left < 100) :
    Calls Try.prog 37 #[.pointer (some ⟨a, 0, none⟩), .int .u8 c] w fun e w' => TextP own a f D K st x c e w' ∧ Wi (SA own a) w w' := by
  obtain ⟨xD, xK, xS, s, q, tx, u, hd, dn, wr⟩ := x
  dsimp only at ht ht2 ho hu
  have HZ := nw_zero
  have b0 : Blk (w.alloc (.cells nw0.cells 78)) w.heap.size 78 nw0.cells := Blk.fresh _ _ _
  have S0 : Below w.heap.size w (w.alloc (.cells nw0.cells 78)) := below_alloc _ _
  have hsz0 : (w.alloc (.cells nw0.cells 78)).heap.size = w.heap.size + 1 := by simp
  obtain ⟨N0, hN0⟩ : ∃ N0, nw0.cells = N0 := ⟨_, rfl⟩
  obtain ⟨w1, hw1⟩ : ∃ w1, w.alloc (.cells N0 78) = w1 := ⟨_, rfl⟩
  rw [hN0] at HZ b0 S0 hsz0
  rw [hw1] at b0 S0 hsz0
  have A1 := h.on S0
  obtain ⟨G, hG⟩ : ∃ G, w.heap.size = G := ⟨_, rfl⟩
  rw [hG] at b0 hsz0
  have hGl : w.heap.size ≤ G := by omega
  have fr : ¬ SA own a G := h.freshA (by omega)
  have c3 : w1.cell? ⟨a, 3, none⟩ = some (.pointer (some ⟨s, 0, none⟩)) := (au_cells A1.blk).2.2.2.1
  have HB := Lib.hid (frame_Byte w1 own s f D K st c A1.stk h0 h1)
  have W1 : Wi (SA own a) w w1 := .ofBelow S0
  have hfr := Lib.hid fr
  have HN0 := Lib.hid hN0
  cases hb : st.any (Fr.full K) with
  | true =>
    rw [hb] at HB
    have HP : Hid (∀ w', AutW w' own a f D K ⟨xD, xK, xS, s, q, tx, u, hd, dn, wr⟩ → TextP own a f D K st ⟨xD, xK, xS, s, q, tx, u, hd, dn, wr⟩ c (.returned (.tuple #[.agg N0, .int .i64 4])) w') := fun w' hp => ⟨fun _ => ⟨by rw [hN0], _, hp, rfl⟩, fun h => by rw [hb] at h; cases h⟩
    have HX : Hid (∀ w2, StkW w2 own s f D K → Wi (Mine own) w1 w2 → (Instr.storeAt 78 (.pointer (some ⟨G, 0, none⟩)) (.agg N0)).run Try.prog w2 = .ok () (w2.setRow G N0) ∧ Blk (w2.setRow G N0) G 78 N0 ∧ AutW (w2.setRow G N0) own a f D K ⟨xD, xK, xS, s, q, tx, u, hd, dn, wr⟩ ∧ Wi (SA own a) w (w2.setRow G N0)) := fun w2 hs hw => by
      have := tail_err (n0 := nw0) (A1.ofW hw hs) (by rw [hN0]; exact hw.blk b0 (fun hm => fr (.inr hm))) (W1.trans hw.sa) fr hGl nw0
      rwa [hN0] at this
    have hi8 : (Try.prog.info? 78).map (·.size) = some N0.size := by rw [← hN0]; exact nw_info
    clear h A1 b0 S0 hL fr W1 hb hN0
    generalize TextP own a f D K st ⟨xD, xK, xS, s, q, tx, u, hd, dn, wr⟩ c = Pz at *
    go_enter Try.func37, Try.ntmps37
    go_wp2_with fail
    refine HB.out.mono ?_
    rintro e w2 ⟨rfl, hs, _, hw⟩
    obtain ⟨q1, q2, q3, q4⟩ := HX.out w2 hs hw
    have H1 := Lib.hid q1
    have H2 := Lib.hid q2
    have H3 := Lib.hid q3
    have H4 := Lib.hid q4
    clear hs hw q1 q2 q3 q4 HX HB
    go_wp2_with ((with_reducible refine is_store 78 rfl ?_); (with_reducible refine wpList_store_run rfl rfl H1.out ?_ ?_ ?_); (· rfl); (· rfl))
    refine bodyPost_ret (results_blk2 rfl _ rfl H2.out Try.underlying78 rfl hi8) rfl ?_
    exact ⟨HP.out _ H3.out, H4.out⟩
  | false =>
    rw [hb] at HB
    have HBB := Lib.hid hb
    have HLL := Lib.hid (lok_feeds (c := c) hL)
    have hlen : (st.map (Fr.feeds [c])).length = st.length := List.length_map _
    have hl64 : (st.length : Int) ≤ 64 := by obtain ⟨fs, _, q, _⟩ := h.stk; have := Nat.le_trans q.hn q.hl; omega
    -- behind the byte: the count of the text, the head
    have HX : Hid (∀ w2, StkR w2 own s f D K (st.map (Fr.feeds [c])) → Wi (Mine own) w1 w2 → (w2.cell? ⟨a, 10, none⟩ = some (.int .u64 tx) ∧ w2.frozen? ⟨a, 10, none⟩ = false) ∧
        ∀ w3, w2.setCell ⟨a, 10, none⟩ (.int .u64 (tx - 1)) = w3 → Calls Try.prog 49 #[.pointer (some ⟨a, 4, none⟩)] w3 (fun e w' => e = .returned (.agg (h3cells q.major q.width q.arg)) ∧ Below w3.heap.size w3 w') ∧
        ∀ w4, Below w3.heap.size w3 w4 → Aut w4 own a f D K (st.map (Fr.feeds [c])) ⟨xD, xK, xS, s, q, tx - 1, u, hd, dn, wr⟩ ∧ Blk w4 G 78 nw0.cells ∧ Wi (SA own a) w w4) := fun w2 hs hw =>
      txt_facts A1 W1 ho (by rw [hN0]; exact b0) fr hs hw
    clear h A1 b0 S0 hL fr W1 hb hN0
    by_cases h3 : q.major = 3
    · cases hwon : won u (tx - 1) c with
      | false =>
        have HP : Hid (∀ w', AutW w' own a f D K ⟨xD, xK, xS, s, q, tx - 1, ustep u c, hd, dn, wr⟩ → TextP own a f D K st ⟨xD, xK, xS, s, q, tx, u, hd, dn, wr⟩ c (.returned (.tuple #[.agg N0, .int .i64 6])) w') := fun w' hp => by rw [← HN0.out]; exact TextP.err6 HBB.out h3 hwon hp rfl
        generalize TextP own a f D K st ⟨xD, xK, xS, s, q, tx, u, hd, dn, wr⟩ c = Pz at *
        have RM := fun w => run_major 3 q.width q.arg w
        rw [h3] at HX

        go_enter Try.func37, Try.ntmps37
        go_wp2_with fail
        refine HB.out.mono ?_
        rintro e w2 ⟨rfl, _, hs, hw⟩
        obtain ⟨⟨q1, q2⟩, q3⟩ := HX.out w2 (hs trivial) hw
        obtain ⟨q4, q5⟩ := q3 _ rfl
        have H4 := Lib.hid q4
        have H5 := Lib.hid q5
        clear hs hw q3 q4 q5 HX HB
        go_wp2_with fail
        refine H4.out.mono ?_
        rintro e w4 ⟨rfl, b4⟩
        have HH := Lib.hid (H5.out w4 b4)
        clear b4 H4 H5 q1 q2
        unfold h3cells

        have HWO := Lib.hid (auto_walkOn w4 a _ c HH.out.1.blk hu)
        have HS5 : Hid (∀ w5, Blk w5 a 73 (AC.mk xD xK xS s q (tx - 1) (ustep u c) hd dn wr).cells → Only a w4 w5 → Aut w5 own a f D K (st.map (Fr.feeds [c])) ⟨xD, xK, xS, s, q, tx - 1, ustep u c, hd, dn, wr⟩ ∧ Blk w5 G 78 nw0.cells ∧ Wi (SA own a) w w5) := fun w5 hb5 o5 =>
          ⟨HH.out.1.ofA o5 hb5 rfl rfl rfl, HH.out.2.1.only o5 (fun e => hfr.out (.inl e)), HH.out.2.2.trans (.saO o5)⟩
        dsimp only at HWO
        rw [hwon] at HWO
        clear HH
        go_wp2_with fail
        refine HWO.out.mono ?_
        rintro e w5 ⟨rfl, hb5, o5⟩
        have HH := Lib.hid (HS5.out w5 hb5 o5)
        clear hb5 o5 HWO HS5

        obtain ⟨r1, r2, r3, r4⟩ := tail_err (n0 := nw0) HH.out.1.weak HH.out.2.1 HH.out.2.2 hfr.out hGl nw0
        rw [HN0.out] at r1 r2 r3 r4
        have H1 := Lib.hid r1
        have H2 := Lib.hid r2
        have H3 := Lib.hid r3
        have HF := Lib.hid r4
        clear r1 r2 r3 r4 HH
        go_wp2_with ((with_reducible refine is_store 78 rfl ?_); (with_reducible refine wpList_store_run rfl rfl H1.out ?_ ?_ ?_); (· rfl); (· rfl))
        refine bodyPost_ret (results_blk2 rfl _ rfl H2.out Try.underlying78 rfl (by rw [← HN0.out]; exact nw_info)) rfl ?_
        exact ⟨HP.out _ H3.out, HF.out⟩
      | true =>
        by_cases hx1 : 1 < tx
        · have HP : Hid (∀ w', Aut w' own a f D K (st.map (Fr.feeds [c])) ⟨xD, xK, xS, s, q, tx - 1, ustep u c, hd, dn, wr⟩ → TextP own a f D K st ⟨xD, xK, xS, s, q, tx, u, hd, dn, wr⟩ c (.returned (.tuple #[.agg (txtN st c).cells, .int .i64 0])) w') := fun w' hp => TextP.ok HBB.out (fun hh => by rw [show won u (tx - 1) c = true from hwon] at hh; cases hh.2) hx1 (by unfold txtX; dsimp only; rw [if_pos h3]) hp
          rw [show (txtN st c).cells = #[.int .i64 2, .int .i64 0, .int .i64 0, .int .u64 0, .int .u8 c, .int .i64 ((st.length : Int) + 1), .int .i64 0, .bool false] from rfl] at HP
          generalize TextP own a f D K st ⟨xD, xK, xS, s, q, tx, u, hd, dn, wr⟩ c = Pz at *
          have RM := fun w => run_major 3 q.width q.arg w
          rw [h3] at HX

          go_enter Try.func37, Try.ntmps37
          go_wp2_with fail
          refine HB.out.mono ?_
          rintro e w2 ⟨rfl, _, hs, hw⟩
          obtain ⟨⟨q1, q2⟩, q3⟩ := HX.out w2 (hs trivial) hw
          obtain ⟨q4, q5⟩ := q3 _ rfl
          have H4 := Lib.hid q4
          have H5 := Lib.hid q5
          clear hs hw q3 q4 q5 HX HB
          go_wp2_with fail
          refine H4.out.mono ?_
          rintro e w4 ⟨rfl, b4⟩
          have HH := Lib.hid (H5.out w4 b4)
          clear b4 H4 H5 q1 q2
          unfold h3cells

          have HWO := Lib.hid (auto_walkOn w4 a _ c HH.out.1.blk hu)
          have HS5 : Hid (∀ w5, Blk w5 a 73 (AC.mk xD xK xS s q (tx - 1) (ustep u c) hd dn wr).cells → Only a w4 w5 → Aut w5 own a f D K (st.map (Fr.feeds [c])) ⟨xD, xK, xS, s, q, tx - 1, ustep u c, hd, dn, wr⟩ ∧ Blk w5 G 78 nw0.cells ∧ Wi (SA own a) w w5) := fun w5 hb5 o5 =>
            ⟨HH.out.1.ofA o5 hb5 rfl rfl rfl, HH.out.2.1.only o5 (fun e => hfr.out (.inl e)), HH.out.2.2.trans (.saO o5)⟩
          dsimp only at HWO
          rw [hwon] at HWO
          clear HH
          go_wp2_with fail
          refine HWO.out.mono ?_
          rintro e w5 ⟨rfl, hb5, o5⟩
          have HH := Lib.hid (HS5.out w5 hb5 o5)
          clear hb5 o5 HWO HS5

          have HD := Lib.hid (auto_deep w5 own a f D K _ _ HH.out.1)
          rw [hlen] at HD
          have r2 := tail_new (n0 := nw0) HH.out.1 HH.out.2.1 HH.out.2.2 (txtN st c)
          obtain ⟨NC, hNC⟩ : ∃ NC, (txtN st c).cells = NC := ⟨_, rfl⟩
          have HNC := Lib.hid hNC
          rw [hNC] at r2
          have H7 := Lib.hid (r2 _ rfl)
          have e10 : (w5.alloc (.cells NC 78)).cell? ⟨a, 10, none⟩ = some (.int .u64 (tx - 1)) := (au_cells H7.out.2.2.1.blk).2.2.2.2.1
          have hl7 := nw_load (n := txtN st c) (by rw [HNC.out]; exact H7.out.1)
          rw [hNC] at hl7
          have HL7 := Lib.hid hl7
          have hN0E : N0 = #[.int .i64 0, .int .i64 0, .int .i64 0, .int .u64 0, .int .u8 0, .int .i64 0, .int .i64 0, .bool false] := HN0.out.symm
          subst hN0E
          have hNE : NC = #[.int .i64 2, .int .i64 0, .int .i64 0, .int .u64 0, .int .u8 c, .int .i64 ((st.length : Int) + 1), .int .i64 0, .bool false] := hNC.symm
          subst hNE
          clear r2 hl7 hNC HH
          go_wp2_with fail
          refine HD.out.mono ?_
          rintro e w6 ⟨rfl, rfl⟩
          clear HD
          generalize hG2 : w6.heap.size = G2 at *

          obtain ⟨r1, r2, r3, r4⟩ := tail_ok (n0 := nw0) H7.out.2.2.1 (by rw [HN0.out]; exact H7.out.2.1) H7.out.2.2.2 hfr.out hGl (txtN st c)
          rw [HNC.out] at r1 r2 r3 r4
          have V1 := Lib.hid r1
          have V2 := Lib.hid r2
          have V3 := Lib.hid r3
          have V4 := Lib.hid r4
          clear r1 r2 r3 r4 H7
          have e11 : (0 : Int) < tx - 1 := by omega
          go_wp2_with (first | ((with_reducible refine is_store 78 rfl ?_); (with_reducible refine wpList_store_run rfl rfl V1.out ?_ ?_ ?_); (· rfl); (· rfl)) | ((with_reducible refine is_load 78 rfl ?_); (with_reducible refine wpList_load_run rfl rfl HL7.out ?_ ?_); (· rfl)))
          refine bodyPost_ret (results_blk2 rfl _ rfl V2.out Try.underlying78 rfl (by rw [← HNC.out]; exact nw_info)) rfl ?_
          exact ⟨HP.out _ V3.out, V4.out⟩
        · have hx1' := Lib.hid (show tx = 1 by omega)
          cases hr : (endS (st.map (Fr.feeds [c]))).1 with
          | false =>
            have HP : Hid (∀ w', AutW w' own a f D K ⟨xD, xK, xS, s, q, tx - 1, ustep u c, hd, dn, wr⟩ → TextP own a f D K st ⟨xD, xK, xS, s, q, tx, u, hd, dn, wr⟩ c (.returned (.tuple #[.agg N0, .int .i64 7])) w') := fun w' hp => by rw [← HN0.out]; exact TextP.end0 (x2 := ⟨xD, xK, xS, s, q, tx - 1, ustep u c, hd, dn, wr⟩) HBB.out (fun hh => by rw [show won u (tx - 1) c = true from hwon] at hh; cases hh.2) hx1'.out hr rfl hp
            generalize TextP own a f D K st ⟨xD, xK, xS, s, q, tx, u, hd, dn, wr⟩ c = Pz at *
            have RM := fun w => run_major 3 q.width q.arg w
            rw [h3] at HX

            go_enter Try.func37, Try.ntmps37
            go_wp2_with fail
            refine HB.out.mono ?_
            rintro e w2 ⟨rfl, _, hs, hw⟩
            obtain ⟨⟨q1, q2⟩, q3⟩ := HX.out w2 (hs trivial) hw
            obtain ⟨q4, q5⟩ := q3 _ rfl
            have H4 := Lib.hid q4
            have H5 := Lib.hid q5
            clear hs hw q3 q4 q5 HX HB
            go_wp2_with fail
            refine H4.out.mono ?_
            rintro e w4 ⟨rfl, b4⟩
            have HH := Lib.hid (H5.out w4 b4)
            clear b4 H4 H5 q1 q2
            unfold h3cells

            have HWO := Lib.hid (auto_walkOn w4 a _ c HH.out.1.blk hu)
            have HS5 : Hid (∀ w5, Blk w5 a 73 (AC.mk xD xK xS s q (tx - 1) (ustep u c) hd dn wr).cells → Only a w4 w5 → Aut w5 own a f D K (st.map (Fr.feeds [c])) ⟨xD, xK, xS, s, q, tx - 1, ustep u c, hd, dn, wr⟩ ∧ Blk w5 G 78 nw0.cells ∧ Wi (SA own a) w w5) := fun w5 hb5 o5 =>
              ⟨HH.out.1.ofA o5 hb5 rfl rfl rfl, HH.out.2.1.only o5 (fun e => hfr.out (.inl e)), HH.out.2.2.trans (.saO o5)⟩
            dsimp only at HWO
            rw [hwon] at HWO
            clear HH
            go_wp2_with fail
            refine HWO.out.mono ?_
            rintro e w5 ⟨rfl, hb5, o5⟩
            have HH := Lib.hid (HS5.out w5 hb5 o5)
            clear hb5 o5 HWO HS5

            have HD := Lib.hid (auto_deep w5 own a f D K _ _ HH.out.1)
            rw [hlen] at HD
            have r2 := tail_new (n0 := nw0) HH.out.1 HH.out.2.1 HH.out.2.2 (txtN st c)
            obtain ⟨NC, hNC⟩ : ∃ NC, (txtN st c).cells = NC := ⟨_, rfl⟩
            have HNC := Lib.hid hNC
            rw [hNC] at r2
            have H7 := Lib.hid (r2 _ rfl)
            have e10 : (w5.alloc (.cells NC 78)).cell? ⟨a, 10, none⟩ = some (.int .u64 (tx - 1)) := (au_cells H7.out.2.2.1.blk).2.2.2.2.1
            have hl7 := nw_load (n := txtN st c) (by rw [HNC.out]; exact H7.out.1)
            rw [hNC] at hl7
            have HL7 := Lib.hid hl7
            have hN0E : N0 = #[.int .i64 0, .int .i64 0, .int .i64 0, .int .u64 0, .int .u8 0, .int .i64 0, .int .i64 0, .bool false] := HN0.out.symm
            subst hN0E
            have hNE : NC = #[.int .i64 2, .int .i64 0, .int .i64 0, .int .u64 0, .int .u8 c, .int .i64 ((st.length : Int) + 1), .int .i64 0, .bool false] := hNC.symm
            subst hNE
            clear r2 hl7 hNC HH
            go_wp2_with fail
            refine HD.out.mono ?_
            rintro e w6 ⟨rfl, rfl⟩
            clear HD
            generalize hG2 : w6.heap.size = G2 at *

            have HE := Lib.hid (tail_end0 (n0 := nw0) H7.out.2.2.1 HLL.out (by rw [HN0.out]; exact H7.out.2.1) H7.out.2.2.2 hfr.out hGl (txtN st c) hr)
            rw [HNC.out] at HE
            rw [HN0.out] at HE
            clear H7
            have e11 : ¬ (0 : Int) < tx - 1 := by have := hx1'.out; omega
            go_wp2_with (((with_reducible refine is_load 78 rfl ?_); (with_reducible refine wpList_load_run rfl rfl HL7.out ?_ ?_); (· rfl)))
            refine HE.out.mono ?_
            rintro e w8 ⟨rfl, r1, r2, r3, r4⟩
            have V1 := Lib.hid r1
            have V2 := Lib.hid r2
            have V3 := Lib.hid r3
            have V4 := Lib.hid r4
            clear r1 r2 r3 r4 HE
            go_wp2_with ((with_reducible refine is_store 78 rfl ?_); (with_reducible refine wpList_store_run rfl rfl V1.out ?_ ?_ ?_); (· rfl); (· rfl))
            refine bodyPost_ret (results_blk2 rfl _ rfl V2.out Try.underlying78 rfl (by rw [← HN0.out]; exact nw_info)) rfl ?_
            exact ⟨HP.out _ V3.out, V4.out⟩
          | true =>
            obtain ⟨NV, hNV⟩ : ∃ NV, ((txtN st c).over (st.map (Fr.feeds [c]))).cells = NV := ⟨_, rfl⟩
            have HNV := Lib.hid hNV
            clear hNV
            have HP : Hid (∀ w', Aut w' own a f D K (endS (st.map (Fr.feeds [c]))).2.2 ⟨xD, xK, xS, s, q, tx - 1, ustep u c, hd, (endS (st.map (Fr.feeds [c]))).2.1, wr⟩ → TextP own a f D K st ⟨xD, xK, xS, s, q, tx, u, hd, dn, wr⟩ c (.returned (.tuple #[.agg NV, .int .i64 0])) w') := fun w' hp => by rw [← HNV.out]; exact TextP.end1 (x2 := ⟨xD, xK, xS, s, q, tx - 1, ustep u c, hd, dn, wr⟩) HBB.out (fun hh => by rw [show won u (tx - 1) c = true from hwon] at hh; cases hh.2) hx1'.out hr (by unfold txtX; dsimp only; rw [if_pos h3]) hp
            generalize TextP own a f D K st ⟨xD, xK, xS, s, q, tx, u, hd, dn, wr⟩ c = Pz at *
            have RM := fun w => run_major 3 q.width q.arg w
            rw [h3] at HX

            go_enter Try.func37, Try.ntmps37
            go_wp2_with fail
            refine HB.out.mono ?_
            rintro e w2 ⟨rfl, _, hs, hw⟩
            obtain ⟨⟨q1, q2⟩, q3⟩ := HX.out w2 (hs trivial) hw
            obtain ⟨q4, q5⟩ := q3 _ rfl
            have H4 := Lib.hid q4
            have H5 := Lib.hid q5
            clear hs hw q3 q4 q5 HX HB
            go_wp2_with fail
            refine H4.out.mono ?_
            rintro e w4 ⟨rfl, b4⟩
            have HH := Lib.hid (H5.out w4 b4)
            clear b4 H4 H5 q1 q2
            unfold h3cells

            have HWO := Lib.hid (auto_walkOn w4 a _ c HH.out.1.blk hu)
            have HS5 : Hid (∀ w5, Blk w5 a 73 (AC.mk xD xK xS s q (tx - 1) (ustep u c) hd dn wr).cells → Only a w4 w5 → Aut w5 own a f D K (st.map (Fr.feeds [c])) ⟨xD, xK, xS, s, q, tx - 1, ustep u c, hd, dn, wr⟩ ∧ Blk w5 G 78 nw0.cells ∧ Wi (SA own a) w w5) := fun w5 hb5 o5 =>
              ⟨HH.out.1.ofA o5 hb5 rfl rfl rfl, HH.out.2.1.only o5 (fun e => hfr.out (.inl e)), HH.out.2.2.trans (.saO o5)⟩
            dsimp only at HWO
            rw [hwon] at HWO
            clear HH
            go_wp2_with fail
            refine HWO.out.mono ?_
            rintro e w5 ⟨rfl, hb5, o5⟩
            have HH := Lib.hid (HS5.out w5 hb5 o5)
            clear hb5 o5 HWO HS5

            have HD := Lib.hid (auto_deep w5 own a f D K _ _ HH.out.1)
            rw [hlen] at HD
            have r2 := tail_new (n0 := nw0) HH.out.1 HH.out.2.1 HH.out.2.2 (txtN st c)
            obtain ⟨NC, hNC⟩ : ∃ NC, (txtN st c).cells = NC := ⟨_, rfl⟩
            have HNC := Lib.hid hNC
            rw [hNC] at r2
            have H7 := Lib.hid (r2 _ rfl)
            have e10 : (w5.alloc (.cells NC 78)).cell? ⟨a, 10, none⟩ = some (.int .u64 (tx - 1)) := (au_cells H7.out.2.2.1.blk).2.2.2.2.1
            have hl7 := nw_load (n := txtN st c) (by rw [HNC.out]; exact H7.out.1)
            rw [hNC] at hl7
            have HL7 := Lib.hid hl7
            have hN0E : N0 = #[.int .i64 0, .int .i64 0, .int .i64 0, .int .u64 0, .int .u8 0, .int .i64 0, .int .i64 0, .bool false] := HN0.out.symm
            subst hN0E
            have hNE : NC = #[.int .i64 2, .int .i64 0, .int .i64 0, .int .u64 0, .int .u8 c, .int .i64 ((st.length : Int) + 1), .int .i64 0, .bool false] := hNC.symm
            subst hNE
            clear r2 hl7 hNC HH
            go_wp2_with fail
            refine HD.out.mono ?_
            rintro e w6 ⟨rfl, rfl⟩
            clear HD
            generalize hG2 : w6.heap.size = G2 at *

            have HE := Lib.hid (tail_end1 (n0 := nw0) H7.out.2.2.1 HLL.out (by rw [HN0.out]; exact H7.out.2.1) H7.out.2.2.2 hfr.out hGl (txtN st c) hr)
            rw [HNC.out] at HE
            rw [HNV.out] at HE
            clear H7
            have e11 : ¬ (0 : Int) < tx - 1 := by have := hx1'.out; omega
            go_wp2_with (((with_reducible refine is_load 78 rfl ?_); (with_reducible refine wpList_load_run rfl rfl HL7.out ?_ ?_); (· rfl)))
            refine HE.out.mono ?_
            rintro e w8 ⟨rfl, r1, r2, r3, r4⟩
            have V1 := Lib.hid r1
            have V2 := Lib.hid r2
            have V3 := Lib.hid r3
            have V4 := Lib.hid r4
            clear r1 r2 r3 r4 HE
            go_wp2_with ((with_reducible refine is_store 78 rfl ?_); (with_reducible refine wpList_store_run rfl rfl V1.out ?_ ?_ ?_); (· rfl); (· rfl))
            refine bodyPost_ret (results_blk2 rfl _ rfl V2.out Try.underlying78 rfl (by rw [← HNV.out]; exact nw_info)) rfl ?_
            exact ⟨HP.out _ V3.out, V4.out⟩
    · by_cases hx1 : 1 < tx
      · have HP : Hid (∀ w', Aut w' own a f D K (st.map (Fr.feeds [c])) ⟨xD, xK, xS, s, q, tx - 1, u, hd, dn, wr⟩ → TextP own a f D K st ⟨xD, xK, xS, s, q, tx, u, hd, dn, wr⟩ c (.returned (.tuple #[.agg (txtN st c).cells, .int .i64 0])) w') := fun w' hp => TextP.ok HBB.out (fun hh => h3 hh.1) hx1 (by unfold txtX; dsimp only; rw [if_neg h3]) hp
        rw [show (txtN st c).cells = #[.int .i64 2, .int .i64 0, .int .i64 0, .int .u64 0, .int .u8 c, .int .i64 ((st.length : Int) + 1), .int .i64 0, .bool false] from rfl] at HP
        generalize TextP own a f D K st ⟨xD, xK, xS, s, q, tx, u, hd, dn, wr⟩ c = Pz at *
        have RM := fun w => run_major q.major q.width q.arg w

        go_enter Try.func37, Try.ntmps37
        go_wp2_with fail
        refine HB.out.mono ?_
        rintro e w2 ⟨rfl, _, hs, hw⟩
        obtain ⟨⟨q1, q2⟩, q3⟩ := HX.out w2 (hs trivial) hw
        obtain ⟨q4, q5⟩ := q3 _ rfl
        have H4 := Lib.hid q4
        have H5 := Lib.hid q5
        clear hs hw q3 q4 q5 HX HB
        go_wp2_with fail
        refine H4.out.mono ?_
        rintro e w4 ⟨rfl, b4⟩
        have HH := Lib.hid (H5.out w4 b4)
        clear b4 H4 H5 q1 q2
        unfold h3cells

        obtain ⟨w5, rfl⟩ : ∃ w5, w5 = w4 := ⟨_, rfl⟩

        have HD := Lib.hid (auto_deep w5 own a f D K _ _ HH.out.1)
        rw [hlen] at HD
        have r2 := tail_new (n0 := nw0) HH.out.1 HH.out.2.1 HH.out.2.2 (txtN st c)
        obtain ⟨NC, hNC⟩ : ∃ NC, (txtN st c).cells = NC := ⟨_, rfl⟩
        have HNC := Lib.hid hNC
        rw [hNC] at r2
        have H7 := Lib.hid (r2 _ rfl)
        have e10 : (w5.alloc (.cells NC 78)).cell? ⟨a, 10, none⟩ = some (.int .u64 (tx - 1)) := (au_cells H7.out.2.2.1.blk).2.2.2.2.1
        have hl7 := nw_load (n := txtN st c) (by rw [HNC.out]; exact H7.out.1)
        rw [hNC] at hl7
        have HL7 := Lib.hid hl7
        have hN0E : N0 = #[.int .i64 0, .int .i64 0, .int .i64 0, .int .u64 0, .int .u8 0, .int .i64 0, .int .i64 0, .bool false] := HN0.out.symm
        subst hN0E
        have hNE : NC = #[.int .i64 2, .int .i64 0, .int .i64 0, .int .u64 0, .int .u8 c, .int .i64 ((st.length : Int) + 1), .int .i64 0, .bool false] := hNC.symm
        subst hNE
        clear r2 hl7 hNC HH
        go_wp2_with fail
        refine HD.out.mono ?_
        rintro e w6 ⟨rfl, rfl⟩
        clear HD
        generalize hG2 : w6.heap.size = G2 at *

        obtain ⟨r1, r2, r3, r4⟩ := tail_ok (n0 := nw0) H7.out.2.2.1 (by rw [HN0.out]; exact H7.out.2.1) H7.out.2.2.2 hfr.out hGl (txtN st c)
        rw [HNC.out] at r1 r2 r3 r4
        have V1 := Lib.hid r1
        have V2 := Lib.hid r2
        have V3 := Lib.hid r3
        have V4 := Lib.hid r4
        clear r1 r2 r3 r4 H7
        have e11 : (0 : Int) < tx - 1 := by omega
        go_wp2_with (first | ((with_reducible refine is_store 78 rfl ?_); (with_reducible refine wpList_store_run rfl rfl V1.out ?_ ?_ ?_); (· rfl); (· rfl)) | ((with_reducible refine is_load 78 rfl ?_); (with_reducible refine wpList_load_run rfl rfl HL7.out ?_ ?_); (· rfl)))
        refine bodyPost_ret (results_blk2 rfl _ rfl V2.out Try.underlying78 rfl (by rw [← HNC.out]; exact nw_info)) rfl ?_
        exact ⟨HP.out _ V3.out, V4.out⟩
      · have hx1' := Lib.hid (show tx = 1 by omega)
        cases hr : (endS (st.map (Fr.feeds [c]))).1 with
        | false =>
          have HP : Hid (∀ w', AutW w' own a f D K ⟨xD, xK, xS, s, q, tx - 1, u, hd, dn, wr⟩ → TextP own a f D K st ⟨xD, xK, xS, s, q, tx, u, hd, dn, wr⟩ c (.returned (.tuple #[.agg N0, .int .i64 7])) w') := fun w' hp => by rw [← HN0.out]; exact TextP.end0 (x2 := ⟨xD, xK, xS, s, q, tx - 1, u, hd, dn, wr⟩) HBB.out (fun hh => h3 hh.1) hx1'.out hr rfl hp
          generalize TextP own a f D K st ⟨xD, xK, xS, s, q, tx, u, hd, dn, wr⟩ c = Pz at *
          have RM := fun w => run_major q.major q.width q.arg w

          go_enter Try.func37, Try.ntmps37
          go_wp2_with fail
          refine HB.out.mono ?_
          rintro e w2 ⟨rfl, _, hs, hw⟩
          obtain ⟨⟨q1, q2⟩, q3⟩ := HX.out w2 (hs trivial) hw
          obtain ⟨q4, q5⟩ := q3 _ rfl
          have H4 := Lib.hid q4
          have H5 := Lib.hid q5
          clear hs hw q3 q4 q5 HX HB
          go_wp2_with fail
          refine H4.out.mono ?_
          rintro e w4 ⟨rfl, b4⟩
          have HH := Lib.hid (H5.out w4 b4)
          clear b4 H4 H5 q1 q2
          unfold h3cells

          obtain ⟨w5, rfl⟩ : ∃ w5, w5 = w4 := ⟨_, rfl⟩

          have HD := Lib.hid (auto_deep w5 own a f D K _ _ HH.out.1)
          rw [hlen] at HD
          have r2 := tail_new (n0 := nw0) HH.out.1 HH.out.2.1 HH.out.2.2 (txtN st c)
          obtain ⟨NC, hNC⟩ : ∃ NC, (txtN st c).cells = NC := ⟨_, rfl⟩
          have HNC := Lib.hid hNC
          rw [hNC] at r2
          have H7 := Lib.hid (r2 _ rfl)
          have e10 : (w5.alloc (.cells NC 78)).cell? ⟨a, 10, none⟩ = some (.int .u64 (tx - 1)) := (au_cells H7.out.2.2.1.blk).2.2.2.2.1
          have hl7 := nw_load (n := txtN st c) (by rw [HNC.out]; exact H7.out.1)
          rw [hNC] at hl7
          have HL7 := Lib.hid hl7
          have hN0E : N0 = #[.int .i64 0, .int .i64 0, .int .i64 0, .int .u64 0, .int .u8 0, .int .i64 0, .int .i64 0, .bool false] := HN0.out.symm
          subst hN0E
          have hNE : NC = #[.int .i64 2, .int .i64 0, .int .i64 0, .int .u64 0, .int .u8 c, .int .i64 ((st.length : Int) + 1), .int .i64 0, .bool false] := hNC.symm
          subst hNE
          clear r2 hl7 hNC HH
          go_wp2_with fail
          refine HD.out.mono ?_
          rintro e w6 ⟨rfl, rfl⟩
          clear HD
          generalize hG2 : w6.heap.size = G2 at *

          have HE := Lib.hid (tail_end0 (n0 := nw0) H7.out.2.2.1 HLL.out (by rw [HN0.out]; exact H7.out.2.1) H7.out.2.2.2 hfr.out hGl (txtN st c) hr)
          rw [HNC.out] at HE
          rw [HN0.out] at HE
          clear H7
          have e11 : ¬ (0 : Int) < tx - 1 := by have := hx1'.out; omega
          go_wp2_with (((with_reducible refine is_load 78 rfl ?_); (with_reducible refine wpList_load_run rfl rfl HL7.out ?_ ?_); (· rfl)))
          refine HE.out.mono ?_
          rintro e w8 ⟨rfl, r1, r2, r3, r4⟩
          have V1 := Lib.hid r1
          have V2 := Lib.hid r2
          have V3 := Lib.hid r3
          have V4 := Lib.hid r4
          clear r1 r2 r3 r4 HE
          go_wp2_with ((with_reducible refine is_store 78 rfl ?_); (with_reducible refine wpList_store_run rfl rfl V1.out ?_ ?_ ?_); (· rfl); (· rfl))
          refine bodyPost_ret (results_blk2 rfl _ rfl V2.out Try.underlying78 rfl (by rw [← HN0.out]; exact nw_info)) rfl ?_
          exact ⟨HP.out _ V3.out, V4.out⟩
        | true =>
          obtain ⟨NV, hNV⟩ : ∃ NV, ((txtN st c).over (st.map (Fr.feeds [c]))).cells = NV := ⟨_, rfl⟩
          have HNV := Lib.hid hNV
          clear hNV
          have HP : Hid (∀ w', Aut w' own a f D K (endS (st.map (Fr.feeds [c]))).2.2 ⟨xD, xK, xS, s, q, tx - 1, u, hd, (endS (st.map (Fr.feeds [c]))).2.1, wr⟩ → TextP own a f D K st ⟨xD, xK, xS, s, q, tx, u, hd, dn, wr⟩ c (.returned (.tuple #[.agg NV, .int .i64 0])) w') := fun w' hp => by rw [← HNV.out]; exact TextP.end1 (x2 := ⟨xD, xK, xS, s, q, tx - 1, u, hd, dn, wr⟩) HBB.out (fun hh => h3 hh.1) hx1'.out hr (by unfold txtX; dsimp only; rw [if_neg h3]) hp
          generalize TextP own a f D K st ⟨xD, xK, xS, s, q, tx, u, hd, dn, wr⟩ c = Pz at *
          have RM := fun w => run_major q.major q.width q.arg w

          go_enter Try.func37, Try.ntmps37
          go_wp2_with fail
          refine HB.out.mono ?_
          rintro e w2 ⟨rfl, _, hs, hw⟩
          obtain ⟨⟨q1, q2⟩, q3⟩ := HX.out w2 (hs trivial) hw
          obtain ⟨q4, q5⟩ := q3 _ rfl
          have H4 := Lib.hid q4
          have H5 := Lib.hid q5
          clear hs hw q3 q4 q5 HX HB
          go_wp2_with fail
          refine H4.out.mono ?_
          rintro e w4 ⟨rfl, b4⟩
          have HH := Lib.hid (H5.out w4 b4)
          clear b4 H4 H5 q1 q2
          unfold h3cells

          obtain ⟨w5, rfl⟩ : ∃ w5, w5 = w4 := ⟨_, rfl⟩

          have HD := Lib.hid (auto_deep w5 own a f D K _ _ HH.out.1)
          rw [hlen] at HD
          have r2 := tail_new (n0 := nw0) HH.out.1 HH.out.2.1 HH.out.2.2 (txtN st c)
          obtain ⟨NC, hNC⟩ : ∃ NC, (txtN st c).cells = NC := ⟨_, rfl⟩
          have HNC := Lib.hid hNC
          rw [hNC] at r2
          have H7 := Lib.hid (r2 _ rfl)
          have e10 : (w5.alloc (.cells NC 78)).cell? ⟨a, 10, none⟩ = some (.int .u64 (tx - 1)) := (au_cells H7.out.2.2.1.blk).2.2.2.2.1
          have hl7 := nw_load (n := txtN st c) (by rw [HNC.out]; exact H7.out.1)
          rw [hNC] at hl7
          have HL7 := Lib.hid hl7
          have hN0E : N0 = #[.int .i64 0, .int .i64 0, .int .i64 0, .int .u64 0, .int .u8 0, .int .i64 0, .int .i64 0, .bool false] := HN0.out.symm
          subst hN0E
          have hNE : NC = #[.int .i64 2, .int .i64 0, .int .i64 0, .int .u64 0, .int .u8 c, .int .i64 ((st.length : Int) + 1), .int .i64 0, .bool false] := hNC.symm
          subst hNE
          clear r2 hl7 hNC HH
          go_wp2_with fail
          refine HD.out.mono ?_
          rintro e w6 ⟨rfl, rfl⟩
          clear HD
          generalize hG2 : w6.heap.size = G2 at *

          have HE := Lib.hid (tail_end1 (n0 := nw0) H7.out.2.2.1 HLL.out (by rw [HN0.out]; exact H7.out.2.1) H7.out.2.2.2 hfr.out hGl (txtN st c) hr)
          rw [HNC.out] at HE
          rw [HNV.out] at HE
          clear H7
          have e11 : ¬ (0 : Int) < tx - 1 := by have := hx1'.out; omega
          go_wp2_with (((with_reducible refine is_load 78 rfl ?_); (with_reducible refine wpList_load_run rfl rfl HL7.out ?_ ?_); (· rfl)))
          refine HE.out.mono ?_
          rintro e w8 ⟨rfl, r1, r2, r3, r4⟩
          have V1 := Lib.hid r1
          have V2 := Lib.hid r2
          have V3 := Lib.hid r3
          have V4 := Lib.hid r4
          clear r1 r2 r3 r4 HE
          go_wp2_with ((with_reducible refine is_store 78 rfl ?_); (with_reducible refine wpList_store_run rfl rfl V1.out ?_ ?_ ?_); (· rfl); (· rfl))
          refine bodyPost_ret (results_blk2 rfl _ rfl V2.out Try.underlying78 rfl (by rw [← HNV.out]; exact nw_info)) rfl ?_
          exact ⟨HP.out _ V3.out, V4.out⟩
end Go.Proofs.Ytchhbcmkhbfpoaa
