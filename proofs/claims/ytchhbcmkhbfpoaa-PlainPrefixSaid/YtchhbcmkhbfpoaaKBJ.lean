/- Package auto: a byte of a head. -/
import Derived.Test.YtchhbcmkhbfpoaaKBI
namespace Go.Proofs.Ytchhbcmkhbfpoaa
open Go.RowKit

def hdN (st : List Fr) (q : HQ) : NW := ⟨1, q.major, q.width, q.arg, 0, st.length + 1, 0, false⟩
/-- What is told of a head's byte. -/
structure HeadP (own : Nat → Nat) (a f D K : Nat) (st : List Fr) (x : AC) (c : Int) (e : Ending) (w' : World) : Prop where
  e2 : herr x.q c = 2 → ErrP own a f D K x 2 e w'
  e3 : herr x.q c ≠ 2 → D < st.length + 1 → ErrP own a f D K x 3 e w'
  e4 : herr x.q c ≠ 2 → ¬ D < st.length + 1 → st.any (Fr.full K) = true → ErrP own a f D K x 4 e w'
  e5 : herr x.q c ≠ 2 → ¬ D < st.length + 1 → st.any (Fr.full K) = false → herr x.q c ≠ 0 → ErrP own a f D K x (herr x.q c) e w'
  mid : ¬ D < st.length + 1 → st.any (Fr.full K) = false → herr x.q c = 0 → hdone x.q c = false → OkP own a f D K nw0 (st.map (Fr.feeds [c])) { x with q := hstep x.q c } e w'
  beg : ¬ D < st.length + 1 → st.any (Fr.full K) = false → herr x.q c = 0 → hdone x.q c = true → (enter (st.map (Fr.feeds [c])) (hstep x.q c).major (hstep x.q c).arg).isEnded = false →
    OkP own a f D K (hdN st (hstep x.q c)) (enter (st.map (Fr.feeds [c])) (hstep x.q c).major (hstep x.q c).arg).st (begX { x with q := hstep x.q c } (hstep x.q c).major (hstep x.q c).arg) e w'
  fin : ¬ D < st.length + 1 → st.any (Fr.full K) = false → herr x.q c = 0 → hdone x.q c = true → (enter (st.map (Fr.feeds [c])) (hstep x.q c).major (hstep x.q c).arg).isEnded = true →
    EndP own a f D K (hdN st (hstep x.q c)) (st.map (Fr.feeds [c])) (begX { x with q := hstep x.q c } (hstep x.q c).major (hstep x.q c).arg) e w'
theorem enter_ended {st : List Fr} {m g : Int} (h : (enter st m g).isEnded = true) : (enter st m g).st = st := by
  unfold enter at h ⊢
  split
  · split <;> rfl
  · split
    · split
      · rfl
      · next h1 h2 h3 => rw [if_neg h1, if_pos h2, if_neg h3] at h; cases h
    · split
      · next h1 h2 h3 => rw [if_neg h1, if_neg h2, if_pos h3] at h; cases h
      · rfl
theorem begX_handed (x : AC) (m g : Int) : (begX x m g).handed = x.handed := by unfold begX; split <;> rfl
section
variable {w1 w2 w : World} {own : Nat → Nat} {a f D K : Nat} {st : List Fr} {x : AC} {G : Nat} {n0 : NW}
theorem hd_facts {q1 : HQ} (A1 : Aut w1 own a f D K st x) (W1 : Wi (SA own a) w w1) (b0 : Blk w1 G 78 n0.cells) (fr : ¬ SA own a G) (hF : Fd w2 a 4 73 x.h0 (hcells q1) x.h1) (ho : Only a w1 w2) :
    Aut w2 own a f D K st { x with q := q1 } ∧ Blk w2 G 78 n0.cells ∧ Wi (SA own a) w w2 :=
  ⟨A1.ofA ho (au_head' hF) rfl rfl rfl, b0.only ho (fun e => fr (.inl e)), W1.trans (.saO ho)⟩
end
theorem run_first (own : NW) (w : World) {G : Nat} {t : TypeId} (h : Blk w G t own.cells) : (Instr.loadAt 40 (.pointer (some ⟨G, 1, none⟩))).run Try.prog w = .ok (.agg (h3cells own.major own.width own.arg)) w :=
  run_load_blk (a := #[.int .i64 own.kind]) (b := #[.int .u8 own.byte, .int .i64 own.deep, .int .i64 own.ended, .bool own.key]) (o := 1) h rfl rfl Try.underlying40 rfl (by kernel_rfl)

set_option maxRecDepth 4000 in
set_option maxHeartbeats 4000000 in
theorem auto_takeHead (w : World) (own : Nat → Nat) (a f D K : Nat) (st : List Fr) (x : AC) (c : Int) (h : Aut w own a f D K st x) (hL : LOk st) (h0 : 0 ≤ c) (h1 : c < 256) (hq : HInv x.q) (hok : HOk x.q) :
    Calls Try.prog 38 #[.pointer (some ⟨a, 0, none⟩), .int .u8 c] w fun e w' => HeadP own a f D K st x c e w' ∧ Wi (SA own a) w w' := by
  have HZ := nw_zero
  have b0 : Blk (w.alloc (.cells nw0.cells 78)) w.heap.size 78 nw0.cells := Blk.fresh _ _ _
  have S0 : Below w.heap.size w (w.alloc (.cells nw0.cells 78)) := below_alloc _ _
  have hsz0 : (w.alloc (.cells nw0.cells 78)).heap.size = w.heap.size + 1 := by simp
  obtain ⟨N0, hN0⟩ : ∃ N0, nw0.cells = N0 := ⟨_, rfl⟩
  obtain ⟨w1, hw1⟩ : ∃ w1, w.alloc (.cells N0 78) = w1 := ⟨_, rfl⟩
  rw [hN0] at HZ b0 S0 hsz0
  rw [hw1] at b0 S0 hsz0
  have A1 := h.on S0
  obtain ⟨G, hG⟩ : ∃ G, w.heap.size = G := ⟨_, rfl⟩
  rw [hG] at b0 hsz0
  have hGl : w.heap.size ≤ G := by omega
  have fr : ¬ SA own a G := h.freshA (by omega)
  have W1 : Wi (SA own a) w w1 := .ofBelow S0
  have hfr := Lib.hid fr
  have HN0 := Lib.hid hN0
  have hDD : x.D = D := h.hD
  have hl64 : (st.length : Int) ≤ 64 := by obtain ⟨fs, _, q, _⟩ := h.stk; have := Nat.le_trans q.hn q.hl; omega
  have HS := Lib.hid (head_StepO c h0 h1 x.q hok (fun _ ho => by have := hq.left ho; omega) w1 a (au_head A1.blk))
  have HX2 : Hid (∀ w2, Fd w2 a 4 73 x.h0 (hcells (hstep x.q c)) x.h1 → Only a w1 w2 → Aut w2 own a f D K st { x with q := hstep x.q c } ∧ Blk w2 G 78 nw0.cells ∧ Wi (SA own a) w w2) := fun w2 hF ho =>
    hd_facts A1 W1 (by rw [hN0]; exact b0) fr hF ho
  have HDN := Lib.hid (fun (hd : hdone x.q c = true) => hq.done h0 h1 hd)
  have HLL := Lib.hid (lok_feeds (c := c) hL)
  have hlen : (st.map (Fr.feeds [c])).length = st.length := List.length_map _
  have HC : Hid (0 ≤ c ∧ c < 256) := ⟨h0, h1⟩
  clear h A1 b0 S0 hL fr W1 hN0 hq hok h0 h1
  generalize hx1 : { x with q := hstep x.q c } = x1 at *
  have HX1 := Lib.hid hx1
  have HD1 : Hid (x1.D = D) := by rw [← hx1]; exact hDD
  have HQ1 : Hid (x1.q = hstep x.q c) := by rw [← hx1]; rfl
  have HH1 : Hid (x1.handed = x.handed) := by rw [← hx1]; rfl
  clear hx1 hDD
  by_cases hE : herr x.q c = 2
  · have HP : Hid (∀ w' x', AutW w' own a f D K x' → x'.handed = x1.handed → HeadP own a f D K st x c (.returned (.tuple #[.agg N0, .int .i64 2])) w') := fun w' x' hp hh => by
      rw [← HN0.out]
      exact ⟨fun _ => ⟨rfl, x', hp, hh.trans HH1.out⟩, fun h => absurd hE h, fun h => absurd hE h, fun h => absurd hE h, fun _ _ h => (by rw [hE] at h; cases h), fun _ _ h => (by rw [hE] at h; cases h), fun _ _ h => (by rw [hE] at h; cases h)⟩
    rw [hE] at HS
    generalize HeadP own a f D K st x c = Pz at *

    go_enter Try.func38, Try.ntmps38
    go_wp2_with fail
    refine HS.out.mono ?_
    rintro e w2 ⟨rfl, f2, o2⟩
    have HH := Lib.hid (HX2.out w2 f2 o2)
    clear f2 o2 HS HX2

    obtain ⟨r1, r2, r3, r4⟩ := tail_err (n0 := nw0) HH.out.1.weak HH.out.2.1 HH.out.2.2 hfr.out hGl nw0
    rw [HN0.out] at r1 r2 r3 r4
    have H1 := Lib.hid r1
    have H2 := Lib.hid r2
    have H3 := Lib.hid r3
    have HF := Lib.hid r4
    clear r1 r2 r3 r4 HH
    go_wp2_with ((with_reducible refine is_store 78 rfl ?_); (with_reducible refine wpList_store_run rfl rfl H1.out ?_ ?_ ?_); (· rfl); (· rfl))
    refine bodyPost_ret (results_blk2 rfl _ rfl H2.out Try.underlying78 rfl (by rw [← HN0.out]; exact nw_info)) rfl ?_
    exact ⟨HP.out _ _ H3.out rfl, HF.out⟩
  by_cases hlt : D < st.length + 1
  · have HP : Hid (∀ w' x', AutW w' own a f D K x' → x'.handed = x1.handed → HeadP own a f D K st x c (.returned (.tuple #[.agg N0, .int .i64 3])) w') := fun w' x' hp hh => by
      rw [← HN0.out]
      exact ⟨fun h => absurd h hE, fun _ _ => ⟨rfl, x', hp, hh.trans HH1.out⟩, fun _ h => absurd hlt h, fun _ h => absurd hlt h, fun h => absurd hlt h, fun h => absurd hlt h, fun h => absurd hlt h⟩
    have hltI : (D : Int) < (st.length : Int) + 1 := by omega
    clear hlt
    generalize herr x.q c = E at *
    generalize HeadP own a f D K st x c = Pz at *

    go_enter Try.func38, Try.ntmps38
    go_wp2_with fail
    refine HS.out.mono ?_
    rintro e w2 ⟨rfl, f2, o2⟩
    have HH := Lib.hid (HX2.out w2 f2 o2)
    clear f2 o2 HS HX2

    have c00 : w2.cell? ⟨a, 0, none⟩ = some (.int .i64 D) := by have := (au_cells HH.out.1.blk).1; rwa [HD1.out] at this
    have HDP := Lib.hid (fun n => auto_deep (w2.drewN n) own a f D K st x1 (HH.out.1.on (below_drawnN (Below.refl _ _) n)))
    go_wp2_with fail
    go_quiet ((with_reducible exact Calls.quiet_of_same (HDP.out _)))
    have HH3 : Hid (Aut (w2.drewN nq) own a f D K st x1 ∧ Blk (w2.drewN nq) G 78 nw0.cells ∧ Wi (SA own a) w (w2.drewN nq)) := by
      have hb : Below w2.heap.size w2 (w2.drewN nq) := below_drawnN (Below.refl _ _) nq
      exact ⟨HH.out.1.on hb, HH.out.2.1.on hb, HH.out.2.2.trans (.ofBelow hb)⟩
    clear HH HDP c00
    generalize w2.drewN nq = w3 at *
    have HH := HH3
    clear HH3

    obtain ⟨r1, r2, r3, r4⟩ := tail_err (n0 := nw0) HH.out.1.weak HH.out.2.1 HH.out.2.2 hfr.out hGl nw0
    rw [HN0.out] at r1 r2 r3 r4
    have H1 := Lib.hid r1
    have H2 := Lib.hid r2
    have H3 := Lib.hid r3
    have HF := Lib.hid r4
    clear r1 r2 r3 r4 HH
    go_wp2_with ((with_reducible refine is_store 78 rfl ?_); (with_reducible refine wpList_store_run rfl rfl H1.out ?_ ?_ ?_); (· rfl); (· rfl))
    refine bodyPost_ret (results_blk2 rfl _ rfl H2.out Try.underlying78 rfl (by rw [← HN0.out]; exact nw_info)) rfl ?_
    exact ⟨HP.out _ _ H3.out rfl, HF.out⟩
  cases hb : st.any (Fr.full K) with
  | true =>
    have HP : Hid (∀ w' x', AutW w' own a f D K x' → x'.handed = x1.handed → HeadP own a f D K st x c (.returned (.tuple #[.agg N0, .int .i64 4])) w') := fun w' x' hp hh => by
      rw [← HN0.out]
      exact ⟨fun h => absurd h hE, fun _ h => absurd h hlt, fun _ _ _ => ⟨rfl, x', hp, hh.trans HH1.out⟩, fun _ _ h => (by rw [hb] at h; cases h), fun _ h => (by rw [hb] at h; cases h), fun _ h => (by rw [hb] at h; cases h), fun _ h => (by rw [hb] at h; cases h)⟩
    have hltI : ¬ (D : Int) < (st.length : Int) + 1 := by omega
    clear hlt
    generalize herr x.q c = E at *
    generalize HeadP own a f D K st x c = Pz at *

    go_enter Try.func38, Try.ntmps38
    go_wp2_with fail
    refine HS.out.mono ?_
    rintro e w2 ⟨rfl, f2, o2⟩
    have HH := Lib.hid (HX2.out w2 f2 o2)
    clear f2 o2 HS HX2

    have c00 : w2.cell? ⟨a, 0, none⟩ = some (.int .i64 D) := by have := (au_cells HH.out.1.blk).1; rwa [HD1.out] at this
    have HDP := Lib.hid (fun n => auto_deep (w2.drewN n) own a f D K st x1 (HH.out.1.on (below_drawnN (Below.refl _ _) n)))
    go_wp2_with fail
    go_quiet ((with_reducible exact Calls.quiet_of_same (HDP.out _)))
    have HH3 : Hid (Aut (w2.drewN nq) own a f D K st x1 ∧ Blk (w2.drewN nq) G 78 nw0.cells ∧ Wi (SA own a) w (w2.drewN nq)) := by
      have hb : Below w2.heap.size w2 (w2.drewN nq) := below_drawnN (Below.refl _ _) nq
      exact ⟨HH.out.1.on hb, HH.out.2.1.on hb, HH.out.2.2.trans (.ofBelow hb)⟩
    clear HH HDP c00
    generalize w2.drewN nq = w3 at *
    have HH := HH3
    clear HH3

    have c33 : w3.cell? ⟨a, 3, none⟩ = some (.pointer (some ⟨x1.s, 0, none⟩)) := (au_cells HH.out.1.blk).2.2.2.1
    have HBy := Lib.hid (frame_Byte w3 own x1.s f D K st c HH.out.1.stk HC.out.1 HC.out.2)
    rw [hb] at HBy
    go_wp2_with fail
    refine HBy.out.mono ?_
    rintro e w4 ⟨rfl, hsw, hsr, hw4⟩

    have HH4 : Hid (AutW w4 own a f D K x1 ∧ Blk w4 G 78 nw0.cells ∧ Wi (SA own a) w w4) :=
      ⟨HH.out.1.ofW hw4 hsw, hw4.blk HH.out.2.1 (fun hm => hfr.out (.inr hm)), HH.out.2.2.trans hw4.sa⟩
    clear HH HBy hsw hsr hw4 c33
    have HH := HH4
    clear HH4

    obtain ⟨r1, r2, r3, r4⟩ := tail_err (n0 := nw0) HH.out.1 HH.out.2.1 HH.out.2.2 hfr.out hGl nw0
    rw [HN0.out] at r1 r2 r3 r4
    have H1 := Lib.hid r1
    have H2 := Lib.hid r2
    have H3 := Lib.hid r3
    have HF := Lib.hid r4
    clear r1 r2 r3 r4 HH
    go_wp2_with ((with_reducible refine is_store 78 rfl ?_); (with_reducible refine wpList_store_run rfl rfl H1.out ?_ ?_ ?_); (· rfl); (· rfl))
    refine bodyPost_ret (results_blk2 rfl _ rfl H2.out Try.underlying78 rfl (by rw [← HN0.out]; exact nw_info)) rfl ?_
    exact ⟨HP.out _ _ H3.out rfl, HF.out⟩
  | false =>
    by_cases hE0 : herr x.q c = 0
    · cases hd : hdone x.q c with
      | false =>
        have HP : Hid (∀ w', Aut w' own a f D K (st.map (Fr.feeds [c])) x1 → HeadP own a f D K st x c (.returned (.tuple #[.agg N0, .int .i64 0])) w') := fun w' hp => by
          rw [← HN0.out]
          exact ⟨fun h => absurd h hE, fun _ h => absurd h hlt, fun _ _ h => (by rw [hb] at h; cases h), fun _ _ _ h => absurd hE0 h, fun _ _ _ _ => ⟨rfl, by rw [HX1.out]; exact hp⟩, fun _ _ _ h => (by rw [hd] at h; cases h), fun _ _ _ h => (by rw [hd] at h; cases h)⟩
        have hltI : ¬ (D : Int) < (st.length : Int) + 1 := by omega
        clear hlt
        rw [hE0, hd] at HS
        generalize HeadP own a f D K st x c = Pz at *

        go_enter Try.func38, Try.ntmps38
        go_wp2_with fail
        refine HS.out.mono ?_
        rintro e w2 ⟨rfl, f2, o2⟩
        have HH := Lib.hid (HX2.out w2 f2 o2)
        clear f2 o2 HS HX2

        have c00 : w2.cell? ⟨a, 0, none⟩ = some (.int .i64 D) := by have := (au_cells HH.out.1.blk).1; rwa [HD1.out] at this
        have HDP := Lib.hid (fun n => auto_deep (w2.drewN n) own a f D K st x1 (HH.out.1.on (below_drawnN (Below.refl _ _) n)))
        go_wp2_with fail
        go_quiet ((with_reducible exact Calls.quiet_of_same (HDP.out _)))
        have HH3 : Hid (Aut (w2.drewN nq) own a f D K st x1 ∧ Blk (w2.drewN nq) G 78 nw0.cells ∧ Wi (SA own a) w (w2.drewN nq)) := by
          have hb : Below w2.heap.size w2 (w2.drewN nq) := below_drawnN (Below.refl _ _) nq
          exact ⟨HH.out.1.on hb, HH.out.2.1.on hb, HH.out.2.2.trans (.ofBelow hb)⟩
        clear HH HDP c00
        generalize w2.drewN nq = w3 at *
        have HH := HH3
        clear HH3

        have c33 : w3.cell? ⟨a, 3, none⟩ = some (.pointer (some ⟨x1.s, 0, none⟩)) := (au_cells HH.out.1.blk).2.2.2.1
        have HBy := Lib.hid (frame_Byte w3 own x1.s f D K st c HH.out.1.stk HC.out.1 HC.out.2)
        rw [hb] at HBy
        go_wp2_with fail
        refine HBy.out.mono ?_
        rintro e w4 ⟨rfl, hsw, hsr, hw4⟩

        have HH4 : Hid (Aut w4 own a f D K (st.map (Fr.feeds [c])) x1 ∧ Blk w4 G 78 nw0.cells ∧ Wi (SA own a) w w4) :=
          ⟨HH.out.1.ofS hw4 (hsr (by first | exact trivial | rfl)), hw4.blk HH.out.2.1 (fun hm => hfr.out (.inr hm)), HH.out.2.2.trans hw4.sa⟩
        clear HH HBy hsw hsr hw4 c33
        have HH := HH4
        clear HH4

        obtain ⟨r1, r2, r3, r4⟩ := tail_ok (n0 := nw0) HH.out.1 HH.out.2.1 HH.out.2.2 hfr.out hGl nw0
        rw [HN0.out] at r1 r2 r3 r4
        have H1 := Lib.hid r1
        have H2 := Lib.hid r2
        have H3 := Lib.hid r3
        have HF := Lib.hid r4
        clear r1 r2 r3 r4 HH
        go_wp2_with ((with_reducible refine is_store 78 rfl ?_); (with_reducible refine wpList_store_run rfl rfl H1.out ?_ ?_ ?_); (· rfl); (· rfl))
        refine bodyPost_ret (results_blk2 rfl _ rfl H2.out Try.underlying78 rfl (by rw [← HN0.out]; exact nw_info)) rfl ?_
        exact ⟨HP.out _ H3.out, HF.out⟩
      | true =>
        cases hen : (enter (st.map (Fr.feeds [c])) (hstep x.q c).major (hstep x.q c).arg).isEnded with
        | false =>
          have HP : Hid (∀ w', Aut w' own a f D K (enter (st.map (Fr.feeds [c])) (hstep x.q c).major (hstep x.q c).arg).st (begX x1 (hstep x.q c).major (hstep x.q c).arg) → HeadP own a f D K st x c (.returned (.tuple #[.agg (hdN st (hstep x.q c)).cells, .int .i64 0])) w') := fun w' hp =>
            ⟨fun h => absurd h hE, fun _ h => absurd h hlt, fun _ _ h => (by rw [hb] at h; cases h), fun _ _ _ h => absurd hE0 h, fun _ _ _ h => (by rw [hd] at h; cases h), fun _ _ _ _ _ => ⟨rfl, by rw [HX1.out]; exact hp⟩, fun _ _ _ _ h => (by rw [hen] at h; cases h)⟩
          rw [show (hdN st (hstep x.q c)).cells = #[.int .i64 1, .int .i64 (hstep x.q c).major, .int .i64 (hstep x.q c).width, .int .u64 (hstep x.q c).arg, .int .u8 0, .int .i64 ((st.length : Int) + 1), .int .i64 0, .bool false] from rfl] at HP
          have HLT : Hid (¬ D < st.length + 1) := hlt
          have hltI : ¬ (D : Int) < (st.length : Int) + 1 := by omega
          clear hlt
          rw [hE0, hd] at HS
          generalize HeadP own a f D K st x c = Pz at *

          go_enter Try.func38, Try.ntmps38
          go_wp2_with fail
          refine HS.out.mono ?_
          rintro e w2 ⟨rfl, f2, o2⟩
          have HH := Lib.hid (HX2.out w2 f2 o2)
          clear f2 o2 HS HX2

          have c00 : w2.cell? ⟨a, 0, none⟩ = some (.int .i64 D) := by have := (au_cells HH.out.1.blk).1; rwa [HD1.out] at this
          have HDP := Lib.hid (fun n => auto_deep (w2.drewN n) own a f D K st x1 (HH.out.1.on (below_drawnN (Below.refl _ _) n)))
          go_wp2_with fail
          go_quiet ((with_reducible exact Calls.quiet_of_same (HDP.out _)))
          have HH3 : Hid (Aut (w2.drewN nq) own a f D K st x1 ∧ Blk (w2.drewN nq) G 78 nw0.cells ∧ Wi (SA own a) w (w2.drewN nq)) := by
            have hb : Below w2.heap.size w2 (w2.drewN nq) := below_drawnN (Below.refl _ _) nq
            exact ⟨HH.out.1.on hb, HH.out.2.1.on hb, HH.out.2.2.trans (.ofBelow hb)⟩
          clear HH HDP c00
          generalize w2.drewN nq = w3 at *
          have HH := HH3
          clear HH3

          have c33 : w3.cell? ⟨a, 3, none⟩ = some (.pointer (some ⟨x1.s, 0, none⟩)) := (au_cells HH.out.1.blk).2.2.2.1
          have HBy := Lib.hid (frame_Byte w3 own x1.s f D K st c HH.out.1.stk HC.out.1 HC.out.2)
          rw [hb] at HBy
          go_wp2_with fail
          refine HBy.out.mono ?_
          rintro e w4 ⟨rfl, hsw, hsr, hw4⟩

          have HH4 : Hid (Aut w4 own a f D K (st.map (Fr.feeds [c])) x1 ∧ Blk w4 G 78 nw0.cells ∧ Wi (SA own a) w w4) :=
            ⟨HH.out.1.ofS hw4 (hsr (by first | exact trivial | rfl)), hw4.blk HH.out.2.1 (fun hm => hfr.out (.inr hm)), HH.out.2.2.trans hw4.sa⟩
          clear HH HBy hsw hsr hw4 c33
          have HH := HH4
          clear HH4

          have HHd := Lib.hid (head_Head_doneO x1.q (by rw [HQ1.out]; exact (HDN.out hd).2) w4 a (au_head HH.out.1.blk))
          rw [HQ1.out] at HHd
          have HX5 : Hid (∀ w5, Below w4.heap.size w4 w5 → Aut w5 own a f D K (st.map (Fr.feeds [c])) x1 ∧ Blk w5 G 78 nw0.cells ∧ Wi (SA own a) w w5) := fun w5 hb => ⟨HH.out.1.on hb, HH.out.2.1.on hb, HH.out.2.2.trans (.ofBelow hb)⟩
          have HQ0 : Hid (0 ≤ (hstep x.q c).arg) := (HDN.out hd).1.arg0
          clear HH HDN
          unfold h3cells at HHd
          go_wp2_with fail
          refine HHd.out.mono ?_
          rintro e w5 ⟨rfl, b5⟩
          have HH := Lib.hid (HX5.out w5 b5)
          clear b5 HX5 HHd
          have HD := Lib.hid (auto_deep w5 own a f D K _ _ HH.out.1)
          rw [hlen] at HD
          have r2 := tail_new (n0 := nw0) HH.out.1 HH.out.2.1 HH.out.2.2 (hdN st (hstep x.q c))
          obtain ⟨NC, hNC⟩ : ∃ NC, (hdN st (hstep x.q c)).cells = NC := ⟨_, rfl⟩
          have HNC := Lib.hid hNC
          rw [hNC] at r2
          have H7 := Lib.hid (r2 _ rfl)
          have hl7 := nw_load (n := hdN st (hstep x.q c)) (by rw [HNC.out]; exact H7.out.1)
          rw [hNC] at hl7
          have HL7 := Lib.hid hl7
          have hl8 := run_first (hdN st (hstep x.q c)) _ (by rw [HNC.out]; exact H7.out.1)
          have HL8 := Lib.hid hl8
          have hN0E : N0 = #[.int .i64 0, .int .i64 0, .int .i64 0, .int .u64 0, .int .u8 0, .int .i64 0, .int .i64 0, .bool false] := HN0.out.symm
          subst hN0E
          have hNE : NC = #[.int .i64 1, .int .i64 (hstep x.q c).major, .int .i64 (hstep x.q c).width, .int .u64 (hstep x.q c).arg, .int .u8 0, .int .i64 ((st.length : Int) + 1), .int .i64 0, .bool false] := hNC.symm
          subst hNE
          have hltD : st.length < D := by have := HLT.out; omega
          have HBg : Hid (∀ w8, Aut w8 own a f D K (st.map (Fr.feeds [c])) x1 → Calls Try.prog 54 #[.pointer (some ⟨a, 0, none⟩), .agg (h3cells (hdN st (hstep x.q c)).major (hdN st (hstep x.q c)).width (hdN st (hstep x.q c)).arg)] w8 fun e w' => e = .returned (.bool true) ∧ Aut w' own a f D K (enter (st.map (Fr.feeds [c])) (hstep x.q c).major (hstep x.q c).arg).st (begX x1 (hstep x.q c).major (hstep x.q c).arg) ∧ Wi (SA own a) w8 w') := fun w8 A8 => by
            have := auto_begin w8 own a f D K (st.map (Fr.feeds [c])) x1 (hstep x.q c).major (hstep x.q c).width (hstep x.q c).arg A8 (by rw [hlen]; exact hltD) HQ0.out
            rwa [hen] at this
          have HFR5 := HH.out.1.freshA (Nat.le_refl _)
          clear r2 hl7 hl8 hNC HH hltD
          go_wp2_with fail
          refine HD.out.mono ?_
          rintro e w6 ⟨rfl, rfl⟩
          clear HD
          have HB8 := Lib.hid (HBg.out _ H7.out.2.2.1)
          have hlt7 := H7.out.1.lt
          have HFR : Hid (¬ SA own a w6.heap.size) := HFR5
          clear HBg
          go_wp2_with ((with_reducible refine is_load 40 rfl ?_); (with_reducible refine wpList_load_run rfl rfl HL8.out ?_ ?_); (· rfl))
          refine HB8.out.mono ?_
          rintro e w8 ⟨rfl, A8, hw8⟩
          have bG8 := hw8.blk H7.out.2.1 hfr.out
          have b28 := hw8.blk H7.out.1 HFR.out
          have hl9 := nw_load (n := hdN st (hstep x.q c)) (by rw [HNC.out]; exact b28)
          rw [HNC.out] at hl9
          have HL9 := Lib.hid hl9
          obtain ⟨r1, r2, r3, r4⟩ := tail_ok (n0 := nw0) A8 (by rw [HN0.out]; exact bG8) (H7.out.2.2.2.trans hw8) hfr.out hGl (hdN st (hstep x.q c))
          rw [HNC.out] at r1 r2 r3 r4
          have V1 := Lib.hid r1
          have V2 := Lib.hid r2
          have V3 := Lib.hid r3
          have V4 := Lib.hid r4
          clear r1 r2 r3 r4 H7 bG8 b28 hl9 A8 hw8 HB8
          go_wp2_with (first | ((with_reducible refine is_store 78 rfl ?_); (with_reducible refine wpList_store_run rfl rfl V1.out ?_ ?_ ?_); (· rfl); (· rfl)) | ((with_reducible refine is_load 78 rfl ?_); (with_reducible refine wpList_load_run rfl rfl HL9.out ?_ ?_); (· rfl)))
          refine bodyPost_ret (results_blk2 rfl _ rfl V2.out Try.underlying78 rfl (by rw [← HNC.out]; exact nw_info)) rfl ?_
          exact ⟨HP.out _ V3.out, V4.out⟩
        | true =>
          cases hr : (endS (st.map (Fr.feeds [c]))).1 with
          | false =>
            have HP : Hid (∀ w', AutW w' own a f D K (begX x1 (hstep x.q c).major (hstep x.q c).arg) → HeadP own a f D K st x c (.returned (.tuple #[.agg N0, .int .i64 7])) w') := fun w' hp => by
              rw [← HN0.out]
              exact ⟨fun h => absurd h hE, fun _ h => absurd h hlt, fun _ _ h => (by rw [hb] at h; cases h), fun _ _ _ h => absurd hE0 h, fun _ _ _ h => (by rw [hd] at h; cases h), fun _ _ _ _ h => (by rw [hen] at h; cases h), fun _ _ _ _ _ => ⟨fun _ => ⟨rfl, _, hp, by rw [begX_handed, begX_handed, ← HX1.out]⟩, fun h => (by rw [hr] at h; cases h)⟩⟩
            have HLT : Hid (¬ D < st.length + 1) := hlt
            have hltI : ¬ (D : Int) < (st.length : Int) + 1 := by omega
            clear hlt
            rw [hE0, hd] at HS
            generalize HeadP own a f D K st x c = Pz at *

            go_enter Try.func38, Try.ntmps38
            go_wp2_with fail
            refine HS.out.mono ?_
            rintro e w2 ⟨rfl, f2, o2⟩
            have HH := Lib.hid (HX2.out w2 f2 o2)
            clear f2 o2 HS HX2

            have c00 : w2.cell? ⟨a, 0, none⟩ = some (.int .i64 D) := by have := (au_cells HH.out.1.blk).1; rwa [HD1.out] at this
            have HDP := Lib.hid (fun n => auto_deep (w2.drewN n) own a f D K st x1 (HH.out.1.on (below_drawnN (Below.refl _ _) n)))
            go_wp2_with fail
            go_quiet ((with_reducible exact Calls.quiet_of_same (HDP.out _)))
            have HH3 : Hid (Aut (w2.drewN nq) own a f D K st x1 ∧ Blk (w2.drewN nq) G 78 nw0.cells ∧ Wi (SA own a) w (w2.drewN nq)) := by
              have hb : Below w2.heap.size w2 (w2.drewN nq) := below_drawnN (Below.refl _ _) nq
              exact ⟨HH.out.1.on hb, HH.out.2.1.on hb, HH.out.2.2.trans (.ofBelow hb)⟩
            clear HH HDP c00
            generalize w2.drewN nq = w3 at *
            have HH := HH3
            clear HH3

            have c33 : w3.cell? ⟨a, 3, none⟩ = some (.pointer (some ⟨x1.s, 0, none⟩)) := (au_cells HH.out.1.blk).2.2.2.1
            have HBy := Lib.hid (frame_Byte w3 own x1.s f D K st c HH.out.1.stk HC.out.1 HC.out.2)
            rw [hb] at HBy
            go_wp2_with fail
            refine HBy.out.mono ?_
            rintro e w4 ⟨rfl, hsw, hsr, hw4⟩

            have HH4 : Hid (Aut w4 own a f D K (st.map (Fr.feeds [c])) x1 ∧ Blk w4 G 78 nw0.cells ∧ Wi (SA own a) w w4) :=
              ⟨HH.out.1.ofS hw4 (hsr (by first | exact trivial | rfl)), hw4.blk HH.out.2.1 (fun hm => hfr.out (.inr hm)), HH.out.2.2.trans hw4.sa⟩
            clear HH HBy hsw hsr hw4 c33
            have HH := HH4
            clear HH4

            have HHd := Lib.hid (head_Head_doneO x1.q (by rw [HQ1.out]; exact (HDN.out hd).2) w4 a (au_head HH.out.1.blk))
            rw [HQ1.out] at HHd
            have HX5 : Hid (∀ w5, Below w4.heap.size w4 w5 → Aut w5 own a f D K (st.map (Fr.feeds [c])) x1 ∧ Blk w5 G 78 nw0.cells ∧ Wi (SA own a) w w5) := fun w5 hb => ⟨HH.out.1.on hb, HH.out.2.1.on hb, HH.out.2.2.trans (.ofBelow hb)⟩
            have HQ0 : Hid (0 ≤ (hstep x.q c).arg) := (HDN.out hd).1.arg0
            clear HH HDN
            unfold h3cells at HHd
            go_wp2_with fail
            refine HHd.out.mono ?_
            rintro e w5 ⟨rfl, b5⟩
            have HH := Lib.hid (HX5.out w5 b5)
            clear b5 HX5 HHd
            have HD := Lib.hid (auto_deep w5 own a f D K _ _ HH.out.1)
            rw [hlen] at HD
            have r2 := tail_new (n0 := nw0) HH.out.1 HH.out.2.1 HH.out.2.2 (hdN st (hstep x.q c))
            obtain ⟨NC, hNC⟩ : ∃ NC, (hdN st (hstep x.q c)).cells = NC := ⟨_, rfl⟩
            have HNC := Lib.hid hNC
            rw [hNC] at r2
            have H7 := Lib.hid (r2 _ rfl)
            have hl7 := nw_load (n := hdN st (hstep x.q c)) (by rw [HNC.out]; exact H7.out.1)
            rw [hNC] at hl7
            have HL7 := Lib.hid hl7
            have hl8 := run_first (hdN st (hstep x.q c)) _ (by rw [HNC.out]; exact H7.out.1)
            have HL8 := Lib.hid hl8
            have hN0E : N0 = #[.int .i64 0, .int .i64 0, .int .i64 0, .int .u64 0, .int .u8 0, .int .i64 0, .int .i64 0, .bool false] := HN0.out.symm
            subst hN0E
            have hNE : NC = #[.int .i64 1, .int .i64 (hstep x.q c).major, .int .i64 (hstep x.q c).width, .int .u64 (hstep x.q c).arg, .int .u8 0, .int .i64 ((st.length : Int) + 1), .int .i64 0, .bool false] := hNC.symm
            subst hNE
            have hltD : st.length < D := by have := HLT.out; omega
            have HBg : Hid (∀ w8, Aut w8 own a f D K (st.map (Fr.feeds [c])) x1 → Calls Try.prog 54 #[.pointer (some ⟨a, 0, none⟩), .agg (h3cells (hdN st (hstep x.q c)).major (hdN st (hstep x.q c)).width (hdN st (hstep x.q c)).arg)] w8 fun e w' => e = .returned (.bool false) ∧ Aut w' own a f D K (enter (st.map (Fr.feeds [c])) (hstep x.q c).major (hstep x.q c).arg).st (begX x1 (hstep x.q c).major (hstep x.q c).arg) ∧ Wi (SA own a) w8 w') := fun w8 A8 => by
              have := auto_begin w8 own a f D K (st.map (Fr.feeds [c])) x1 (hstep x.q c).major (hstep x.q c).width (hstep x.q c).arg A8 (by rw [hlen]; exact hltD) HQ0.out
              rwa [hen] at this
            have HFR5 := HH.out.1.freshA (Nat.le_refl _)
            clear r2 hl7 hl8 hNC HH hltD
            go_wp2_with fail
            refine HD.out.mono ?_
            rintro e w6 ⟨rfl, rfl⟩
            clear HD
            have HB8 := Lib.hid (HBg.out _ H7.out.2.2.1)
            have hlt7 := H7.out.1.lt
            have HFR : Hid (¬ SA own a w6.heap.size) := HFR5
            clear HBg
            go_wp2_with ((with_reducible refine is_load 40 rfl ?_); (with_reducible refine wpList_load_run rfl rfl HL8.out ?_ ?_); (· rfl))
            refine HB8.out.mono ?_
            rintro e w8 ⟨rfl, A8, hw8⟩
            have bG8 := hw8.blk H7.out.2.1 hfr.out
            have b28 := hw8.blk H7.out.1 HFR.out
            have hl9 := nw_load (n := hdN st (hstep x.q c)) (by rw [HNC.out]; exact b28)
            rw [HNC.out] at hl9
            have HL9 := Lib.hid hl9
            rw [enter_ended hen] at A8
            have HE := Lib.hid (tail_end0 (n0 := nw0) A8 HLL.out (by rw [HN0.out]; exact bG8) (H7.out.2.2.2.trans hw8) hfr.out hGl (hdN st (hstep x.q c)) hr)
            rw [HNC.out] at HE
            rw [HN0.out] at HE
            clear H7 bG8 b28 hl9 A8 hw8 HB8
            go_wp2_with ((with_reducible refine is_load 78 rfl ?_); (with_reducible refine wpList_load_run rfl rfl HL9.out ?_ ?_); (· rfl))
            refine HE.out.mono ?_
            rintro e w9 ⟨rfl, r1, r2, r3, r4⟩
            have V1 := Lib.hid r1
            have V2 := Lib.hid r2
            have V3 := Lib.hid r3
            have V4 := Lib.hid r4
            clear r1 r2 r3 r4 HE
            go_wp2_with ((with_reducible refine is_store 78 rfl ?_); (with_reducible refine wpList_store_run rfl rfl V1.out ?_ ?_ ?_); (· rfl); (· rfl))
            refine bodyPost_ret (results_blk2 rfl _ rfl V2.out Try.underlying78 rfl (by rw [← HN0.out]; exact nw_info)) rfl ?_
            exact ⟨HP.out _ V3.out, V4.out⟩
          | true =>
            obtain ⟨NV, hNV⟩ : ∃ NV, ((hdN st (hstep x.q c)).over (st.map (Fr.feeds [c]))).cells = NV := ⟨_, rfl⟩
            have HNV := Lib.hid hNV
            clear hNV
            have HP : Hid (∀ w', Aut w' own a f D K (endS (st.map (Fr.feeds [c]))).2.2 { begX x1 (hstep x.q c).major (hstep x.q c).arg with done := (endS (st.map (Fr.feeds [c]))).2.1 } → HeadP own a f D K st x c (.returned (.tuple #[.agg NV, .int .i64 0])) w') := fun w' hp => by
              rw [← HNV.out]
              exact ⟨fun h => absurd h hE, fun _ h => absurd h hlt, fun _ _ h => (by rw [hb] at h; cases h), fun _ _ _ h => absurd hE0 h, fun _ _ _ h => (by rw [hd] at h; cases h), fun _ _ _ _ h => (by rw [hen] at h; cases h), fun _ _ _ _ _ => ⟨fun h => (by rw [hr] at h; cases h), fun _ => ⟨rfl, by rw [HX1.out]; exact hp⟩⟩⟩
            have HLT : Hid (¬ D < st.length + 1) := hlt
            have hltI : ¬ (D : Int) < (st.length : Int) + 1 := by omega
            clear hlt
            rw [hE0, hd] at HS
            generalize HeadP own a f D K st x c = Pz at *

            go_enter Try.func38, Try.ntmps38
            go_wp2_with fail
            refine HS.out.mono ?_
            rintro e w2 ⟨rfl, f2, o2⟩
            have HH := Lib.hid (HX2.out w2 f2 o2)
            clear f2 o2 HS HX2

            have c00 : w2.cell? ⟨a, 0, none⟩ = some (.int .i64 D) := by have := (au_cells HH.out.1.blk).1; rwa [HD1.out] at this
            have HDP := Lib.hid (fun n => auto_deep (w2.drewN n) own a f D K st x1 (HH.out.1.on (below_drawnN (Below.refl _ _) n)))
            go_wp2_with fail
            go_quiet ((with_reducible exact Calls.quiet_of_same (HDP.out _)))
            have HH3 : Hid (Aut (w2.drewN nq) own a f D K st x1 ∧ Blk (w2.drewN nq) G 78 nw0.cells ∧ Wi (SA own a) w (w2.drewN nq)) := by
              have hb : Below w2.heap.size w2 (w2.drewN nq) := below_drawnN (Below.refl _ _) nq
              exact ⟨HH.out.1.on hb, HH.out.2.1.on hb, HH.out.2.2.trans (.ofBelow hb)⟩
            clear HH HDP c00
            generalize w2.drewN nq = w3 at *
            have HH := HH3
            clear HH3

            have c33 : w3.cell? ⟨a, 3, none⟩ = some (.pointer (some ⟨x1.s, 0, none⟩)) := (au_cells HH.out.1.blk).2.2.2.1
            have HBy := Lib.hid (frame_Byte w3 own x1.s f D K st c HH.out.1.stk HC.out.1 HC.out.2)
            rw [hb] at HBy
            go_wp2_with fail
            refine HBy.out.mono ?_
            rintro e w4 ⟨rfl, hsw, hsr, hw4⟩

            have HH4 : Hid (Aut w4 own a f D K (st.map (Fr.feeds [c])) x1 ∧ Blk w4 G 78 nw0.cells ∧ Wi (SA own a) w w4) :=
              ⟨HH.out.1.ofS hw4 (hsr (by first | exact trivial | rfl)), hw4.blk HH.out.2.1 (fun hm => hfr.out (.inr hm)), HH.out.2.2.trans hw4.sa⟩
            clear HH HBy hsw hsr hw4 c33
            have HH := HH4
            clear HH4

            have HHd := Lib.hid (head_Head_doneO x1.q (by rw [HQ1.out]; exact (HDN.out hd).2) w4 a (au_head HH.out.1.blk))
            rw [HQ1.out] at HHd
            have HX5 : Hid (∀ w5, Below w4.heap.size w4 w5 → Aut w5 own a f D K (st.map (Fr.feeds [c])) x1 ∧ Blk w5 G 78 nw0.cells ∧ Wi (SA own a) w w5) := fun w5 hb => ⟨HH.out.1.on hb, HH.out.2.1.on hb, HH.out.2.2.trans (.ofBelow hb)⟩
            have HQ0 : Hid (0 ≤ (hstep x.q c).arg) := (HDN.out hd).1.arg0
            clear HH HDN
            unfold h3cells at HHd
            go_wp2_with fail
            refine HHd.out.mono ?_
            rintro e w5 ⟨rfl, b5⟩
            have HH := Lib.hid (HX5.out w5 b5)
            clear b5 HX5 HHd
            have HD := Lib.hid (auto_deep w5 own a f D K _ _ HH.out.1)
            rw [hlen] at HD
            have r2 := tail_new (n0 := nw0) HH.out.1 HH.out.2.1 HH.out.2.2 (hdN st (hstep x.q c))
            obtain ⟨NC, hNC⟩ : ∃ NC, (hdN st (hstep x.q c)).cells = NC := ⟨_, rfl⟩
            have HNC := Lib.hid hNC
            rw [hNC] at r2
            have H7 := Lib.hid (r2 _ rfl)
            have hl7 := nw_load (n := hdN st (hstep x.q c)) (by rw [HNC.out]; exact H7.out.1)
            rw [hNC] at hl7
            have HL7 := Lib.hid hl7
            have hl8 := run_first (hdN st (hstep x.q c)) _ (by rw [HNC.out]; exact H7.out.1)
            have HL8 := Lib.hid hl8
            have hN0E : N0 = #[.int .i64 0, .int .i64 0, .int .i64 0, .int .u64 0, .int .u8 0, .int .i64 0, .int .i64 0, .bool false] := HN0.out.symm
            subst hN0E
            have hNE : NC = #[.int .i64 1, .int .i64 (hstep x.q c).major, .int .i64 (hstep x.q c).width, .int .u64 (hstep x.q c).arg, .int .u8 0, .int .i64 ((st.length : Int) + 1), .int .i64 0, .bool false] := hNC.symm
            subst hNE
            have hltD : st.length < D := by have := HLT.out; omega
            have HBg : Hid (∀ w8, Aut w8 own a f D K (st.map (Fr.feeds [c])) x1 → Calls Try.prog 54 #[.pointer (some ⟨a, 0, none⟩), .agg (h3cells (hdN st (hstep x.q c)).major (hdN st (hstep x.q c)).width (hdN st (hstep x.q c)).arg)] w8 fun e w' => e = .returned (.bool false) ∧ Aut w' own a f D K (enter (st.map (Fr.feeds [c])) (hstep x.q c).major (hstep x.q c).arg).st (begX x1 (hstep x.q c).major (hstep x.q c).arg) ∧ Wi (SA own a) w8 w') := fun w8 A8 => by
              have := auto_begin w8 own a f D K (st.map (Fr.feeds [c])) x1 (hstep x.q c).major (hstep x.q c).width (hstep x.q c).arg A8 (by rw [hlen]; exact hltD) HQ0.out
              rwa [hen] at this
            have HFR5 := HH.out.1.freshA (Nat.le_refl _)
            clear r2 hl7 hl8 hNC HH hltD
            go_wp2_with fail
            refine HD.out.mono ?_
            rintro e w6 ⟨rfl, rfl⟩
            clear HD
            have HB8 := Lib.hid (HBg.out _ H7.out.2.2.1)
            have hlt7 := H7.out.1.lt
            have HFR : Hid (¬ SA own a w6.heap.size) := HFR5
            clear HBg
            go_wp2_with ((with_reducible refine is_load 40 rfl ?_); (with_reducible refine wpList_load_run rfl rfl HL8.out ?_ ?_); (· rfl))
            refine HB8.out.mono ?_
            rintro e w8 ⟨rfl, A8, hw8⟩
            have bG8 := hw8.blk H7.out.2.1 hfr.out
            have b28 := hw8.blk H7.out.1 HFR.out
            have hl9 := nw_load (n := hdN st (hstep x.q c)) (by rw [HNC.out]; exact b28)
            rw [HNC.out] at hl9
            have HL9 := Lib.hid hl9
            rw [enter_ended hen] at A8
            have HE := Lib.hid (tail_end1 (n0 := nw0) A8 HLL.out (by rw [HN0.out]; exact bG8) (H7.out.2.2.2.trans hw8) hfr.out hGl (hdN st (hstep x.q c)) hr)
            rw [HNC.out] at HE
            rw [HNV.out] at HE
            clear H7 bG8 b28 hl9 A8 hw8 HB8
            go_wp2_with ((with_reducible refine is_load 78 rfl ?_); (with_reducible refine wpList_load_run rfl rfl HL9.out ?_ ?_); (· rfl))
            refine HE.out.mono ?_
            rintro e w9 ⟨rfl, r1, r2, r3, r4⟩
            have V1 := Lib.hid r1
            have V2 := Lib.hid r2
            have V3 := Lib.hid r3
            have V4 := Lib.hid r4
            clear r1 r2 r3 r4 HE
            go_wp2_with ((with_reducible refine is_store 78 rfl ?_); (with_reducible refine wpList_store_run rfl rfl V1.out ?_ ?_ ?_); (· rfl); (· rfl))
            refine bodyPost_ret (results_blk2 rfl _ rfl V2.out Try.underlying78 rfl (by rw [← HNV.out]; exact nw_info)) rfl ?_
            exact ⟨HP.out _ V3.out, V4.out⟩
    · have HP : Hid (∀ w' x', AutW w' own a f D K x' → x'.handed = x1.handed → HeadP own a f D K st x c (.returned (.tuple #[.agg N0, .int .i64 (herr x.q c)])) w') := fun w' x' hp hh => by
        rw [← HN0.out]
        exact ⟨fun h => absurd h hE, fun _ h => absurd h hlt, fun _ _ h => (by rw [hb] at h; cases h), fun _ _ _ _ => ⟨rfl, x', hp, hh.trans HH1.out⟩, fun _ _ h => absurd h hE0, fun _ _ h => absurd h hE0, fun _ _ h => absurd h hE0⟩
      have hltI : ¬ (D : Int) < (st.length : Int) + 1 := by omega
      clear hlt
      generalize herr x.q c = E at *
      generalize HeadP own a f D K st x c = Pz at *

      go_enter Try.func38, Try.ntmps38
      go_wp2_with fail
      refine HS.out.mono ?_
      rintro e w2 ⟨rfl, f2, o2⟩
      have HH := Lib.hid (HX2.out w2 f2 o2)
      clear f2 o2 HS HX2

      have c00 : w2.cell? ⟨a, 0, none⟩ = some (.int .i64 D) := by have := (au_cells HH.out.1.blk).1; rwa [HD1.out] at this
      have HDP := Lib.hid (fun n => auto_deep (w2.drewN n) own a f D K st x1 (HH.out.1.on (below_drawnN (Below.refl _ _) n)))
      go_wp2_with fail
      go_quiet ((with_reducible exact Calls.quiet_of_same (HDP.out _)))
      have HH3 : Hid (Aut (w2.drewN nq) own a f D K st x1 ∧ Blk (w2.drewN nq) G 78 nw0.cells ∧ Wi (SA own a) w (w2.drewN nq)) := by
        have hb : Below w2.heap.size w2 (w2.drewN nq) := below_drawnN (Below.refl _ _) nq
        exact ⟨HH.out.1.on hb, HH.out.2.1.on hb, HH.out.2.2.trans (.ofBelow hb)⟩
      clear HH HDP c00
      generalize w2.drewN nq = w3 at *
      have HH := HH3
      clear HH3

      have c33 : w3.cell? ⟨a, 3, none⟩ = some (.pointer (some ⟨x1.s, 0, none⟩)) := (au_cells HH.out.1.blk).2.2.2.1
      have HBy := Lib.hid (frame_Byte w3 own x1.s f D K st c HH.out.1.stk HC.out.1 HC.out.2)
      rw [hb] at HBy
      go_wp2_with fail
      refine HBy.out.mono ?_
      rintro e w4 ⟨rfl, hsw, hsr, hw4⟩

      have HH4 : Hid (Aut w4 own a f D K (st.map (Fr.feeds [c])) x1 ∧ Blk w4 G 78 nw0.cells ∧ Wi (SA own a) w w4) :=
        ⟨HH.out.1.ofS hw4 (hsr (by first | exact trivial | rfl)), hw4.blk HH.out.2.1 (fun hm => hfr.out (.inr hm)), HH.out.2.2.trans hw4.sa⟩
      clear HH HBy hsw hsr hw4 c33
      have HH := HH4
      clear HH4

      obtain ⟨r1, r2, r3, r4⟩ := tail_err (n0 := nw0) HH.out.1.weak HH.out.2.1 HH.out.2.2 hfr.out hGl nw0
      rw [HN0.out] at r1 r2 r3 r4
      have H1 := Lib.hid r1
      have H2 := Lib.hid r2
      have H3 := Lib.hid r3
      have HF := Lib.hid r4
      clear r1 r2 r3 r4 HH
      go_wp2_with ((with_reducible refine is_store 78 rfl ?_); (with_reducible refine wpList_store_run rfl rfl H1.out ?_ ?_ ?_); (· rfl); (· rfl))
      refine bodyPost_ret (results_blk2 rfl _ rfl H2.out Try.underlying78 rfl (by rw [← HN0.out]; exact nw_info)) rfl ?_
      exact ⟨HP.out _ _ H3.out rfl, HF.out⟩
end Go.Proofs.Ytchhbcmkhbfpoaa
