/- Package auto: take, against the plain machine. -/
import Derived.Test.YtchhbcmkhbfpoaaKBJ
import Derived.Test.YtchhbcmkhbfpoaaKAZ
namespace Go.Proofs.Ytchhbcmkhbfpoaa
open Go.RowKit

/-- Two readers that a byte does not tell apart. -/
def HSame (q q' : HQ) : Prop := q = q' ∨ (q.opn = false ∧ q'.opn = false ∧ q.wrong = 0 ∧ q'.wrong = 0)
theorem HSame.mid {q q' : HQ} (h : HSame q q') (c : Int) : hmid q c = hmid q' c := by
  rcases h with rfl | ⟨h1, h2, h3, h4⟩
  · rfl
  · unfold hmid
    rw [if_neg (by simp [h3]), if_neg (by simp [h1]), if_neg (by simp [h4]), if_neg (by simp [h2])]
theorem HSame.step {q q' : HQ} (h : HSame q q') (c : Int) : hstep q c = hstep q' c := by unfold hstep; rw [h.mid]
theorem HSame.done {q q' : HQ} (h : HSame q q') (c : Int) : hdone q c = hdone q' c := by unfold hdone; rw [h.mid]
theorem HSame.err {q q' : HQ} (h : HSame q q') (c : Int) : herr q c = herr q' c := by unfold herr; rw [h.mid]
theorem HSame.opn {q q' : HQ} (h : HSame q q') : q.opn = q'.opn := by
  rcases h with rfl | ⟨h1, h2, _, _⟩
  · rfl
  · rw [h1, h2]
/-- What the automaton's cells say of the plain machine's control. -/
def CtlM (k : Ctl) (x : AC) : Prop := match k with
  | .head q => x.text = 0 ∧ x.done = false ∧ HSame x.q q
  | .text n t u => x.text = n ∧ x.done = false ∧ t = (x.q.major == 3) ∧ (t = true → x.u = u) ∧ x.q.opn = false
  | .ended => False
  | .fin => x.done = true ∧ x.text = 0
/-- The automaton is the plain machine, and nothing is wrong. -/
structure AM (s : AQ) (x : AC) : Prop where
  ctl : CtlM s.ctl x
  hq : HInv x.q
  hok : HOk x.q
  hu : x.u.left ≤ 3
  wrong : x.wrong = 0
/-- What is told. -/
def downs (i : Nat) (e : Nat) : Nat → List AEv
  | 0 => []
  | k + 1 => endEv false (e + 1 + k) (i + 1) :: downs i e k
def NW.evs (n : NW) (i : Nat) : List AEv :=
  if n.kind = 0 then [] else ⟨n.kind, n.major, n.width, n.arg, n.byte, n.deep.toNat, i⟩ ::
    (if n.ended = 0 then [] else downs i n.ended.toNat (n.deep - n.ended).toNat ++ [endEv n.key n.ended.toNat (i + 1)])
theorem endS_len (st : List Fr) : (endS st).2.2.length ≤ st.length := by
  induction st with
  | nil => exact Nat.le_refl _
  | cons y st ih =>
    unfold endS
    split
    · simp
    · split
      · simp only [List.length_cons]; omega
      · simp
/-- All that ends is what the plain machine says. -/
theorem settle_evs (i : Nat) (st : List Fr) : (settle (i + 1) st).2.2 = downs i ((endS st).2.2.length + 1) (st.length - (endS st).2.2.length) ++ [endEv (keyE (endS st).2.2) ((endS st).2.2.length + 1) (i + 1)] := by
  induction st with
  | nil => rfl
  | cons y st ih =>
    unfold settle endS
    split
    · next hw =>
      have : keyE (y.keyed :: st) = true := by
        unfold Fr.waits at hw
        simp at hw
        unfold keyE kindS keyS Fr.keyed Fr.waits
        simp [hw.1]
      dsimp only
      rw [this, List.length_cons, List.length_cons, Nat.sub_self]
      rfl
    · split
      · next hl =>
        dsimp only
        rw [ih]
        have := endS_len st
        rw [List.length_cons, show st.length + 1 - (endS st).2.2.length = (st.length - (endS st).2.2.length) + 1 by omega]
        show _ = endEv false ((endS st).2.2.length + 1 + 1 + (st.length - (endS st).2.2.length)) (i + 1) :: _ ++ _
        rw [show (endS st).2.2.length + 1 + 1 + (st.length - (endS st).2.2.length) = st.length + 2 by omega]
        rfl
      · next hw hl =>
        have : keyE (y.less :: st) = false := by
          unfold keyE kindS keyS Fr.less Fr.waits
          cases h : (y.kind == 5) with
          | false => simp [h]
          | true => simp [h]
        dsimp only
        rw [this, List.length_cons, List.length_cons, Nat.sub_self]
        rfl
theorem settle_st (i : Nat) (st : List Fr) : (settle i st).1.st = (endS st).2.2 ∧ (((endS st).2.1 = true ∧ (settle i st).1.ctl = .fin) ∨ ((endS st).2.1 = false ∧ (settle i st).1.ctl = .head hq0)) := by
  induction st with
  | nil => exact ⟨rfl, .inl ⟨rfl, rfl⟩⟩
  | cons y st ih =>
    unfold settle endS
    split
    · exact ⟨rfl, .inr ⟨rfl, rfl⟩⟩
    · split
      · exact ih
      · exact ⟨rfl, .inr ⟨rfl, rfl⟩⟩
theorem settle_notes (i : Nat) (st : List Fr) : (settle i st).2.1 = if (endS st).1 then [] else [(i - 1, 7)] := by
  induction st with
  | nil => rfl
  | cons y st ih =>
    unfold settle endS
    split
    · dsimp only
      unfold onotes
      cases ha : y.any <;> cases hh : ahead y.last y.cur <;> simp
    · split
      · exact ih
      · rfl
end Go.Proofs.Ytchhbcmkhbfpoaa

/- Package auto: take. -/
namespace Go.Proofs.Ytchhbcmkhbfpoaa
open Go.RowKit

section
variable {own : Nat → Nat} {a f D K G : Nat} {st : List Fr} {x : AC} {c k : Int} {e : Ending} {w w' : World} {n : NW}
theorem ErrP.only (h : ErrP own a f D K x k e w) (ho : Only G w w') (fr : ¬ SA own a G) : ErrP own a f D K x k e w' := let ⟨h1, x', h2, h3⟩ := h; ⟨h1, x', h2.only ho fr, h3⟩
theorem OkP.only (h : OkP own a f D K n st x e w) (ho : Only G w w') (fr : ¬ SA own a G) : OkP own a f D K n st x e w' := let ⟨h1, h2⟩ := h; ⟨h1, h2.only ho fr⟩
theorem EndP.only (h : EndP own a f D K n st x e w) (ho : Only G w w') (fr : ¬ SA own a G) : EndP own a f D K n st x e w' := ⟨fun q => (h.1 q).only ho fr, fun q => (h.2 q).only ho fr⟩
theorem TextP.only (h : TextP own a f D K st x c e w) (ho : Only G w w') (fr : ¬ SA own a G) : TextP own a f D K st x c e w' :=
  ⟨fun q => (h.1 q).only ho fr, fun q => ⟨fun r => ((h.2 q).1 r).only ho fr, fun r => ⟨fun t => (((h.2 q).2 r).1 t).only ho fr, fun t => (((h.2 q).2 r).2 t).only ho fr⟩⟩⟩
theorem HeadP.only (h : HeadP own a f D K st x c e w) (ho : Only G w w') (fr : ¬ SA own a G) : HeadP own a f D K st x c e w' :=
  ⟨fun q => (h.e2 q).only ho fr, fun q r => (h.e3 q r).only ho fr, fun q r s => (h.e4 q r s).only ho fr, fun q r s t => (h.e5 q r s t).only ho fr, fun q r s t => (h.mid q r s t).only ho fr, fun q r s t u => (h.beg q r s t u).only ho fr, fun q r s t u => (h.fin q r s t u).only ho fr⟩
/-- It hands back news and a number. -/
def Form (e : Ending) : Prop := ∃ (n : NW) (k : Int), e = .returned (.tuple #[.agg n.cells, .int .i64 k])
theorem ErrP.form (h : ErrP own a f D K x k e w) : Form e := ⟨nw0, k, h.1⟩
theorem OkP.form (h : OkP own a f D K n st x e w) : Form e := ⟨n, 0, h.1⟩
theorem EndP.form (h : EndP own a f D K n st x e w) : Form e := by
  cases hr : (endS st).1 with
  | false => exact (h.1 hr).form
  | true => exact (h.2 hr).form
theorem TextP.form (h : TextP own a f D K st x c e w) (ht : 1 ≤ x.text) : Form e := by
  cases hb : st.any (Fr.full K) with
  | true => exact (h.1 hb).form
  | false =>
    by_cases h3 : x.q.major = 3 ∧ won x.u (x.text - 1) c = false
    · exact ((h.2 hb).1 h3).form
    · by_cases h1 : 1 < x.text
      · exact (((h.2 hb).2 h3).1 h1).form
      · exact (((h.2 hb).2 h3).2 (by omega)).form
theorem HeadP.form (h : HeadP own a f D K st x c e w) : Form e := by
  by_cases h2 : herr x.q c = 2
  · exact (h.e2 h2).form
  by_cases h3 : D < st.length + 1
  · exact (h.e3 h2 h3).form
  cases hb : st.any (Fr.full K) with
  | true => exact (h.e4 h2 h3 hb).form
  | false =>
    by_cases h0 : herr x.q c = 0
    · cases hd : hdone x.q c with
      | false => exact (h.mid h3 hb h0 hd).form
      | true =>
        cases he : (enter (st.map (Fr.feeds [c])) (hstep x.q c).major (hstep x.q c).arg).isEnded with
        | false => exact (h.beg h3 hb h0 hd he).form
        | true => exact (h.fin h3 hb h0 hd he).form
    · exact (h.e5 h2 h3 hb h0).form
end
/-- What take answers, way by way. -/
structure TakeW (own : Nat → Nat) (a f D K : Nat) (st : List Fr) (x : AC) (c : Int) (e : Ending) (w' : World) : Prop where
  big : x.S ≤ x.handed → ErrP own a f D K x 1 e w'
  over : ¬ x.S ≤ x.handed → x.done = true → ErrP own a f D K x 2 e w'
  text : ¬ x.S ≤ x.handed → x.done = false → 0 < x.text → TextP own a f D K st x c e w'
  head : ¬ x.S ≤ x.handed → x.done = false → x.text = 0 → HeadP own a f D K st x c e w'
set_option maxRecDepth 4000 in
set_option maxHeartbeats 4000000 in
theorem auto_take (w : World) (own : Nat → Nat) (a f D K : Nat) (st : List Fr) (x : AC) (c : Int) (h : Aut w own a f D K st x) (hL : LOk st) (h0 : 0 ≤ c) (h1 : c < 256) (hq : HInv x.q) (hok : HOk x.q)
    (ht : 0 ≤ x.text) (ht2 : x.text < 18446744073709551616) (ho : 0 < x.text → x.q.opn = false) (hu : x.u.left ≤ 3) :
    Calls Try.prog 27 #[.pointer (some ⟨a, 0, none⟩), .int .u8 c] w fun e w' => TakeW own a f D K st x c e w' ∧ Wi (SA own a) w w' := by
  have HZ := nw_zero
  have b0 : Blk (w.alloc (.cells nw0.cells 78)) w.heap.size 78 nw0.cells := Blk.fresh _ _ _
  have S0 : Below w.heap.size w (w.alloc (.cells nw0.cells 78)) := below_alloc _ _
  have hsz0 : (w.alloc (.cells nw0.cells 78)).heap.size = w.heap.size + 1 := by simp
  obtain ⟨N0, hN0⟩ : ∃ N0, nw0.cells = N0 := ⟨_, rfl⟩
  obtain ⟨w1, hw1⟩ : ∃ w1, w.alloc (.cells N0 78) = w1 := ⟨_, rfl⟩
  rw [hN0] at HZ b0 S0 hsz0
  rw [hw1] at b0 S0 hsz0
  have A1 := h.on S0
  obtain ⟨G, hG⟩ : ∃ G, w.heap.size = G := ⟨_, rfl⟩
  rw [hG] at b0 hsz0
  have hGl : w.heap.size ≤ G := by omega
  have fr : ¬ SA own a G := h.freshA (by omega)
  have W1 : Wi (SA own a) w w1 := .ofBelow S0
  obtain ⟨_, _, c2, _, c10, c15, c16, _, _⟩ := au_cells A1.blk
  -- the world behind the region that draws
  have HH : Hid (∀ q, Aut (w1.drewN q) own a f D K st x ∧ Blk (w1.drewN q) G 78 nw0.cells ∧ Wi (SA own a) w (w1.drewN q)) := fun q => by
    have hb : Below w1.heap.size w1 (w1.drewN q) := below_drawnN (Below.refl _ _) q
    exact ⟨A1.on hb, by rw [hN0]; exact b0.on hb, W1.trans (.ofBelow hb)⟩
  have HN0 := Lib.hid hN0
  have hfr := Lib.hid fr
  have HLL := Lib.hid hL
  have HCC : Hid (0 ≤ c ∧ c < 256) := ⟨h0, h1⟩
  have HQ := Lib.hid hq
  have HK := Lib.hid hok
  have HO := Lib.hid ho
  have hu100 : Hid (x.u.left < 100) := show _ < _ by omega
  clear h A1 b0 S0 hL fr W1 hN0 hq hok h0 h1 ho hu
  by_cases hbig : x.S ≤ x.handed
  · have HP : Hid (∀ w', AutW w' own a f D K x → TakeW own a f D K st x c (.returned (.tuple #[.agg N0, .int .i64 1])) w') := fun w' hp => by
      rw [← HN0.out]
      exact ⟨fun _ => ⟨rfl, x, hp, rfl⟩, fun h => absurd hbig h, fun h => absurd hbig h, fun h => absurd hbig h⟩
    generalize TakeW own a f D K st x c = Pz at *
    go_enter Try.func27, Try.ntmps27
    go_wp2_with fail
    go_quiet (fail)
    obtain ⟨r1, r2, r3, r4⟩ := tail_err (n0 := nw0) (HH.out nq).1.weak (HH.out nq).2.1 (HH.out nq).2.2 hfr.out hGl nw0
    rw [HN0.out] at r1 r2 r3 r4
    have H1 := Lib.hid r1
    have H2 := Lib.hid r2
    have H3 := Lib.hid r3
    have HF := Lib.hid r4
    clear r1 r2 r3 r4 HH
    generalize w1.drewN nq = w3 at *
    go_wp2_with ((with_reducible refine is_store 78 rfl ?_); (with_reducible refine wpList_store_run rfl rfl H1.out ?_ ?_ ?_); (· rfl); (· rfl))
    refine bodyPost_ret (results_blk2 rfl _ rfl H2.out Try.underlying78 rfl (by rw [← HN0.out]; exact nw_info)) rfl ?_
    exact ⟨HP.out _ H3.out, HF.out⟩
  cases hd : x.done with
  | true =>
    rw [hd] at c16
    have HP : Hid (∀ w', AutW w' own a f D K x → TakeW own a f D K st x c (.returned (.tuple #[.agg N0, .int .i64 2])) w') := fun w' hp => by
      rw [← HN0.out]
      exact ⟨fun h => absurd h hbig, fun _ _ => ⟨rfl, x, hp, rfl⟩, fun _ h => (by rw [hd] at h; cases h), fun _ h => (by rw [hd] at h; cases h)⟩
    generalize TakeW own a f D K st x c = Pz at *
    clear hd
    go_enter Try.func27, Try.ntmps27
    go_wp2_with fail
    go_quiet (fail)
    obtain ⟨r1, r2, r3, r4⟩ := tail_err (n0 := nw0) (HH.out nq).1.weak (HH.out nq).2.1 (HH.out nq).2.2 hfr.out hGl nw0
    rw [HN0.out] at r1 r2 r3 r4
    have H1 := Lib.hid r1
    have H2 := Lib.hid r2
    have H3 := Lib.hid r3
    have HF := Lib.hid r4
    have c16' : (w1.drewN nq).cell? ⟨a, 16, none⟩ = some (.bool true) := c16
    clear r1 r2 r3 r4 HH c16
    generalize w1.drewN nq = w3 at *
    go_wp2_with ((with_reducible refine is_store 78 rfl ?_); (with_reducible refine wpList_store_run rfl rfl H1.out ?_ ?_ ?_); (· rfl); (· rfl))
    refine bodyPost_ret (results_blk2 rfl _ rfl H2.out Try.underlying78 rfl (by rw [← HN0.out]; exact nw_info)) rfl ?_
    exact ⟨HP.out _ H3.out, HF.out⟩
  | false =>
    rw [hd] at c16
    by_cases htx : 0 < x.text
    · have HP : Hid (∀ e w', TextP own a f D K st x c e w' → TakeW own a f D K st x c e w') := fun e w' hp =>
        ⟨fun h => absurd h hbig, fun _ h => (by rw [hd] at h; cases h), fun _ _ _ => hp, fun _ _ h => by omega⟩
      have HT : Hid (∀ q, Calls Try.prog 37 #[.pointer (some ⟨a, 0, none⟩), .int .u8 c] (w1.drewN q) fun e w' => ∃ (n : NW) (k : Int), e = .returned (.tuple #[.agg n.cells, .int .i64 k]) ∧ (Instr.storeAt 78 (.pointer (some ⟨G, 0, none⟩)) (.agg n.cells)).run Try.prog w' = .ok () (w'.setRow G n.cells) ∧ Blk (w'.setRow G n.cells) G 78 n.cells ∧ TextP own a f D K st x c (.returned (.tuple #[.agg n.cells, .int .i64 k])) (w'.setRow G n.cells) ∧ Wi (SA own a) w (w'.setRow G n.cells)) := fun q => by
        refine (auto_takeText (w1.drewN q) own a f D K st x c (HH.out q).1 HLL.out HCC.out.1 HCC.out.2 (by omega) ht2 (HO.out htx) hu100.out).mono ?_
        rintro e w' ⟨hp, hw⟩
        obtain ⟨n, k, rfl⟩ := hp.form (by omega)
        have bG := hw.blk (HH.out q).2.1 hfr.out
        exact ⟨n, k, rfl, nw_store bG n, bG.setRow _, hp.only (only_row _ _) hfr.out, ((HH.out q).2.2.trans hw).fresh (only_row _ _) hGl⟩
      generalize TakeW own a f D K st x c = Pz at *
      clear HH hd
      generalize TextP own a f D K st x c = Pt at *
      go_enter Try.func27, Try.ntmps27
      go_wp2_with fail
      go_quiet (fail)
      have HT3 := Lib.hid (HT.out nq)
      have c16' : (w1.drewN nq).cell? ⟨a, 16, none⟩ = some (.bool false) := c16
      have c10' : (w1.drewN nq).cell? ⟨a, 10, none⟩ = some (.int .u64 x.text) := c10
      clear HT c16 c10
      generalize w1.drewN nq = w3 at *
      go_wp2_with fail
      refine HT3.out.mono ?_
      rintro e w4 ⟨n, k, rfl, r1, r2, r3, r4⟩
      have hi8 : (Try.prog.info? 78).map (·.size) = some n.cells.size := nw_info
      generalize n.cells = N2 at *
      have H1 := Lib.hid r1
      have H2 := Lib.hid r2
      have H3 := Lib.hid r3
      have HF := Lib.hid r4
      clear r1 r2 r3 r4 HT3
      go_wp2_with ((with_reducible refine is_store 78 rfl ?_); (with_reducible refine wpList_store_run rfl rfl H1.out ?_ ?_ ?_); (· rfl); (· rfl))
      refine bodyPost_ret (results_blk2 rfl _ rfl H2.out Try.underlying78 rfl hi8) rfl ?_
      exact ⟨HP.out _ _ H3.out, HF.out⟩
    · have htx0 : x.text = 0 := by omega
      have HP : Hid (∀ e w', HeadP own a f D K st x c e w' → TakeW own a f D K st x c e w') := fun e w' hp =>
        ⟨fun h => absurd h hbig, fun _ h => (by rw [hd] at h; cases h), fun _ _ h => absurd h htx, fun _ _ _ => hp⟩
      have HT : Hid (∀ q, Calls Try.prog 38 #[.pointer (some ⟨a, 0, none⟩), .int .u8 c] (w1.drewN q) fun e w' => ∃ (n : NW) (k : Int), e = .returned (.tuple #[.agg n.cells, .int .i64 k]) ∧ (Instr.storeAt 78 (.pointer (some ⟨G, 0, none⟩)) (.agg n.cells)).run Try.prog w' = .ok () (w'.setRow G n.cells) ∧ Blk (w'.setRow G n.cells) G 78 n.cells ∧ HeadP own a f D K st x c (.returned (.tuple #[.agg n.cells, .int .i64 k])) (w'.setRow G n.cells) ∧ Wi (SA own a) w (w'.setRow G n.cells)) := fun q => by
        refine (auto_takeHead (w1.drewN q) own a f D K st x c (HH.out q).1 HLL.out HCC.out.1 HCC.out.2 HQ.out HK.out).mono ?_
        rintro e w' ⟨hp, hw⟩
        obtain ⟨n, k, rfl⟩ := hp.form
        have bG := hw.blk (HH.out q).2.1 hfr.out
        exact ⟨n, k, rfl, nw_store bG n, bG.setRow _, hp.only (only_row _ _) hfr.out, ((HH.out q).2.2.trans hw).fresh (only_row _ _) hGl⟩
      generalize TakeW own a f D K st x c = Pz at *
      generalize HeadP own a f D K st x c = Pt at *
      rw [htx0] at c10
      clear HH hd htx0 htx ht ht2
      go_enter Try.func27, Try.ntmps27
      go_wp2_with fail
      go_quiet (fail)
      have HT3 := Lib.hid (HT.out nq)
      have c16' : (w1.drewN nq).cell? ⟨a, 16, none⟩ = some (.bool false) := c16
      have c10' : (w1.drewN nq).cell? ⟨a, 10, none⟩ = some (.int .u64 0) := c10
      clear HT c16 c10
      generalize w1.drewN nq = w3 at *
      go_wp2_with fail
      refine HT3.out.mono ?_
      rintro e w4 ⟨n, k, rfl, r1, r2, r3, r4⟩
      have hi8 : (Try.prog.info? 78).map (·.size) = some n.cells.size := nw_info
      generalize n.cells = N2 at *
      have H1 := Lib.hid r1
      have H2 := Lib.hid r2
      have H3 := Lib.hid r3
      have HF := Lib.hid r4
      clear r1 r2 r3 r4 HT3
      go_wp2_with ((with_reducible refine is_store 78 rfl ?_); (with_reducible refine wpList_store_run rfl rfl H1.out ?_ ?_ ?_); (· rfl); (· rfl))
      refine bodyPost_ret (results_blk2 rfl _ rfl H2.out Try.underlying78 rfl hi8) rfl ?_
      exact ⟨HP.out _ _ H3.out, HF.out⟩
end Go.Proofs.Ytchhbcmkhbfpoaa

/- Package auto: what take answers is what the plain machine does. -/
namespace Go.Proofs.Ytchhbcmkhbfpoaa
open Go.RowKit

theorem hok_step {q : HQ} (hok : HOk q) (hq : HInv q) (c : Int) : HOk (hstep q c) := by
  have h := hok_mid q c hok (fun _ ho => by have := hq.left ho; omega)
  unfold hstep
  split
  · exact h
  · exact h
theorem evs_own {n : NW} {i : Nat} (h : n.kind ≠ 0) (h0 : n.ended = 0) : n.evs i = [⟨n.kind, n.major, n.width, n.arg, n.byte, n.deep.toNat, i⟩] := by
  unfold NW.evs
  rw [if_neg h, if_pos h0]
theorem evs_over {n : NW} {i : Nat} {st : List Fr} (h : n.kind ≠ 0) (hd : n.deep = (st.length : Int) + 1) : (n.over st).evs i = ⟨n.kind, n.major, n.width, n.arg, n.byte, n.deep.toNat, i⟩ :: (settle (i + 1) st).2.2 := by
  have hl := endS_len st
  unfold NW.evs NW.over
  dsimp only
  rw [if_neg h, if_neg (by omega), settle_evs]
  congr 3
  · congr 1 <;> omega
/-- Nothing is wrong: the machine goes on. -/
structure Goes1 (own : Nat → Nat) (a f D K i : Nat) (s : AQ) (x : AC) (c : Int) (s' : AQ) (n : NW) (x' : AC) (e : Ending) (w' : World) : Prop where
  next : (fstep D K i s c).next = some s'
  evs : n.evs i = (fstep D K i s c).evs
  ok : OkP own a f D K n s'.st x' e w'
  am : AM s' x'
  handed : x'.handed = x.handed
  S : x'.S = x.S
theorem fstep_open {D K i : Nat} {s s' : AQ} {c : Int} (h : (bstep D K i s c).next = some s') (he : s'.isEnded = false) : fstep D K i s c = bstep D K i s c := by
  unfold fstep
  rw [h]
  dsimp only
  rw [he, if_neg (by decide)]
theorem fstep_end {D K i : Nat} {s s' : AQ} {c : Int} (h : (bstep D K i s c).next = some s') (he : s'.isEnded = true) : fstep D K i s c = ⟨some (settle (i + 1) s'.st).1, (bstep D K i s c).notes ++ (settle (i + 1) s'.st).2.1, (bstep D K i s c).evs ++ (settle (i + 1) s'.st).2.2⟩ := by
  unfold fstep
  rw [h]
  dsimp only
  rw [he, if_pos rfl]
theorem fstep_pre {D K i : Nat} {s : AQ} {c : Int} : ∃ t, (fstep D K i s c).notes = (bstep D K i s c).notes ++ t := by
  unfold fstep
  split
  · exact ⟨[], by simp⟩
  · split
    · exact ⟨_, rfl⟩
    · exact ⟨[], by simp⟩
/-- Of what is noted the first. -/
def Fst (o : Out) (k : Int) : Prop := ∃ m r, o.notes = m :: r ∧ m.2 = k
theorem hnotes2 {D K i : Nat} {st : List Fr} {q : HQ} {c : Int} (h : herr q c = 2) : ∃ r, hnotes D K i st q c = (i, 2) :: r := by unfold hnotes; rw [if_pos h]; exact ⟨_, rfl⟩
theorem hnotes3 {D K i : Nat} {st : List Fr} {q : HQ} {c : Int} (h : ¬ herr q c = 2) (h' : q.opn = false ∧ D < st.length + 1) : ∃ r, hnotes D K i st q c = (i, 3) :: r := by unfold hnotes; rw [if_neg h, if_pos h']; exact ⟨_, rfl⟩
theorem hnotes4 {D K i : Nat} {st : List Fr} {q : HQ} {c : Int} (h : ¬ herr q c = 2) (h' : ¬ D < st.length + 1) (h4 : st.any (Fr.full K) = true) : ∃ r, hnotes D K i st q c = (i, 4) :: r := by unfold hnotes; rw [if_neg h, if_neg (fun x => h' x.2), if_pos h4]; exact ⟨_, rfl⟩
theorem hnotes5 {D K i : Nat} {st : List Fr} {q : HQ} {c : Int} (h : ¬ herr q c = 2) (h' : ¬ D < st.length + 1) (h4 : st.any (Fr.full K) = false) (h5 : herr q c = 5) : ∃ r, hnotes D K i st q c = (i, 5) :: r := by unfold hnotes; rw [if_neg h, if_neg (fun x => h' x.2), if_neg (by simp [h4]), if_pos h5]; exact ⟨_, rfl⟩
theorem tnotes4 {K i : Nat} {st : List Fr} {n : Int} {t : Bool} {u : UQ} {c : Int} (h4 : st.any (Fr.full K) = true) : ∃ r, tnotes K i st n t u c = (i, 4) :: r := by unfold tnotes; rw [if_pos h4]; exact ⟨_, rfl⟩
theorem Fst.of {D K i : Nat} {s : AQ} {c k : Int} (h : Fst (bstep D K i s c) k) : Fst (fstep D K i s c) k := by
  obtain ⟨m, r, h1, h2⟩ := h
  obtain ⟨t, ht⟩ := fstep_pre (D := D) (K := K) (i := i) (s := s) (c := c)
  exact ⟨m, r ++ t, by rw [ht, h1]; rfl, h2⟩
section
variable {own : Nat → Nat} {a f D K i : Nat} {x x2 : AC} {s s2 : AQ} {c : Int} {e : Ending} {w' : World} {n : NW}
/-- An item ends. -/
theorem ends_plain {st : List Fr} (hb : (bstep D K i s c).next = some ⟨st, .ended⟩) (hn : (bstep D K i s c).notes = []) (hev : (bstep D K i s c).evs = [⟨n.kind, n.major, n.width, n.arg, n.byte, n.deep.toNat, i⟩]) (hk : n.kind ≠ 0) (hd : n.deep = (st.length : Int) + 1)
    (hp : EndP own a f D K n st x2 e w') (hq : HInv x2.q) (hok : HOk x2.q) (hu : x2.u.left ≤ 3) (hw : x2.wrong = 0) (hopn : x2.q.opn = false) (ht : x2.text = 0) (hh : x2.handed = x.handed) (hS : x2.S = x.S) :
    (∃ k, Fst (fstep D K i s c) k ∧ ErrP own a f D K x k e w') ∨ ((fstep D K i s c).notes = [] ∧ ∃ s' n' x', Goes1 own a f D K i s x c s' n' x' e w') := by
  have hf := fstep_end hb rfl
  dsimp only at hf
  cases hr : (endS st).1 with
  | false =>
    left
    refine ⟨7, ⟨(i, 7), [], ?_, rfl⟩, ?_⟩
    · rw [hf, hn, settle_notes, hr]; rfl
    · obtain ⟨h1, x', h2, h3⟩ := hp.1 hr
      exact ⟨h1, x', h2, h3.trans hh⟩
  | true =>
    right
    obtain ⟨h1, h2⟩ := hp.2 hr
    obtain ⟨e1, e2⟩ := settle_st (i + 1) st
    refine ⟨by rw [hf, hn, settle_notes, hr]; rfl, _, n.over st, { x2 with done := (endS st).2.1 }, ⟨by rw [hf], ?_, ⟨h1, by rw [e1]; exact h2⟩, ⟨?_, hq, hok, hu, hw⟩, hh, hS⟩⟩
    · rw [hf, hev, evs_over hk hd]; rfl
    · rcases e2 with ⟨q1, q2⟩ | ⟨q1, q2⟩
      · rw [q2]; exact ⟨q1, ht⟩
      · rw [q2]
        exact ⟨ht, q1, .inr ⟨hopn, rfl, hq.wrong, rfl⟩⟩
end
theorem take_plain {own : Nat → Nat} {a f D K i : Nat} {x : AC} {s : AQ} {c : Int} {e : Ending} {w' : World} (hO : AOk D K s) (hM : AM s x) (h0 : 0 ≤ c) (h1 : c < 256) (hp : TakeW own a f D K s.st x c e w') (hS : ¬ x.S ≤ x.handed) :
    (∃ k, Fst (fstep D K i s c) k ∧ ErrP own a f D K x k e w') ∨ ((fstep D K i s c).notes = [] ∧ ∃ s' n' x', Goes1 own a f D K i s x c s' n' x' e w') := by
  obtain ⟨st, k⟩ := s
  obtain ⟨hlen, hfr, hct⟩ := hO
  obtain ⟨hc, hq, hok, hu, hwr⟩ := hM
  dsimp only at hlen hfr hct hp hc
  rcases hct with ⟨q, rfl, hqi, hlt⟩ | ⟨n, t, u, rfl, hn1, hn2, huw, hlt⟩ | ⟨rfl, rfl⟩
  · obtain ⟨ct, cd, cs⟩ := hc
    have hH := hp.head hS cd ct
    have hB : bstep D K i ⟨st, .head q⟩ c = ⟨if hdone q c then some (enter (st.map (Fr.feeds [c])) (hstep q c).major (hstep q c).arg) else if herr q c = 0 then some ⟨st.map (Fr.feeds [c]), .head (hstep q c)⟩ else none,
      hnotes D K i st q c, if hdone q c then [⟨1, (hstep q c).major, (hstep q c).width, (hstep q c).arg, 0, st.length + 1, i⟩] else []⟩ := rfl
    by_cases e2 : herr x.q c = 2
    · left
      obtain ⟨r, hr⟩ := hnotes2 (D := D) (K := K) (i := i) (st := st) (q := q) (c := c) (cs.err c ▸ e2)
      exact ⟨2, .of ⟨(i, 2), r, hr, rfl⟩, hH.e2 e2⟩
    have e2' : ¬ herr q c = 2 := cs.err c ▸ e2
    by_cases e3 : D < st.length + 1
    · left
      have ho : q.opn = false := by
        cases ho : q.opn with
        | false => rfl
        | true => have := hlt ho; omega
      obtain ⟨r, hr⟩ := hnotes3 (D := D) (K := K) (i := i) (st := st) e2' ⟨ho, e3⟩
      exact ⟨3, .of ⟨(i, 3), r, hr, rfl⟩, hH.e3 e2 e3⟩
    cases hf : st.any (Fr.full K) with
    | true =>
      left
      obtain ⟨r, hr⟩ := hnotes4 (D := D) (K := K) (i := i) e2' e3 hf
      exact ⟨4, .of ⟨(i, 4), r, hr, rfl⟩, hH.e4 e2 e3 hf⟩
    | false =>
      by_cases e0 : herr x.q c = 0
      · have e0' : herr q c = 0 := cs.err c ▸ e0
        have hnn : hnotes D K i st q c = [] := by
          unfold hnotes
          rw [if_neg e2', if_neg (fun h => e3 h.2), if_neg (by simp [hf]), if_neg (by omega)]
          rfl
        cases hd : hdone x.q c with
        | false =>
          right
          have hd' : hdone q c = false := cs.done c ▸ hd
          have hnx : (bstep D K i ⟨st, .head q⟩ c).next = some ⟨st.map (Fr.feeds [c]), .head (hstep q c)⟩ := by rw [hB]; dsimp only; rw [hd', if_neg (by decide), if_pos e0']
          have hfs := fstep_open hnx rfl
          obtain ⟨i1, i2⟩ := hq.next h0 h1 hd e0
          refine ⟨by rw [hfs, hB]; exact hnn, ⟨st.map (Fr.feeds [c]), .head (hstep q c)⟩, nw0, { x with q := hstep x.q c }, ⟨by rw [hfs]; exact hnx, ?_, hH.mid e3 hf e0 hd, ⟨⟨ct, cd, .inl (cs.step c)⟩, i1, hok_step hok hq c, hu, hwr⟩, rfl, rfl⟩⟩
          rw [hfs, hB]
          dsimp only
          rw [hd', if_neg (by decide)]
          rfl
        | true =>
          have hd' : hdone q c = true := cs.done c ▸ hd
          have hst : hstep x.q c = hstep q c := cs.step c
          obtain ⟨i1, i2⟩ := hq.done h0 h1 hd
          have hnx : (bstep D K i ⟨st, .head q⟩ c).next = some (enter (st.map (Fr.feeds [c])) (hstep x.q c).major (hstep x.q c).arg) := by rw [hB]; dsimp only; rw [hd', if_pos rfl, hst]
          have hev : (bstep D K i ⟨st, .head q⟩ c).evs = [⟨1, (hstep x.q c).major, (hstep x.q c).width, (hstep x.q c).arg, 0, st.length + 1, i⟩] := by rw [hB]; dsimp only; rw [hd', if_pos rfl, hst]
          have hno : (bstep D K i ⟨st, .head q⟩ c).notes = [] := by rw [hB]; exact hnn
          cases hen : (enter (st.map (Fr.feeds [c])) (hstep x.q c).major (hstep x.q c).arg).isEnded with
          | false =>
            right
            have hfs := fstep_open hnx hen
            have hok2 := hH.beg e3 hf e0 hd hen
            refine ⟨by rw [hfs]; exact hno, _, _, _, ⟨by rw [hfs]; exact hnx, ?_, hok2, ?_, begX_handed _ _ _, ?_⟩⟩
            · rw [hfs, hev, evs_own (n := hdN st (hstep x.q c)) (show (1 : Int) ≠ 0 by decide) rfl]
              unfold hdN
              congr 2
            · have hb2 : ∀ m g, (begX { x with q := hstep x.q c } m g).q = hstep x.q c := fun m g => by unfold begX; split <;> rfl
              have hbd : ∀ m g, (begX { x with q := hstep x.q c } m g).done = x.done := fun m g => by unfold begX; split <;> rfl
              have hbw : ∀ m g, (begX { x with q := hstep x.q c } m g).wrong = x.wrong := fun m g => by unfold begX; split <;> rfl
              have hbu : ∀ m g, (begX { x with q := hstep x.q c } m g).u.left ≤ 3 := fun m g => by
                unfold begX; split
                · exact Nat.zero_le _
                · exact hu
              refine ⟨?_, by rw [hb2]; exact i1, by rw [hb2]; exact hok_step hok hq c, hbu _ _, by rw [hbw]; exact hwr⟩
              revert hen
              unfold enter
              by_cases m2 : (hstep x.q c).major = 2 ∨ (hstep x.q c).major = 3
              · rw [if_pos m2]
                split
                · intro h; cases h
                · intro _
                  refine ⟨?_, by rw [hbd]; exact cd, ?_, ?_, by rw [hb2]; exact i2⟩
                  · unfold begX; rw [if_pos m2]
                  · rw [hb2]
                  · intro _; unfold begX; rw [if_pos m2]
              · have hbt : (begX { x with q := hstep x.q c } (hstep x.q c).major (hstep x.q c).arg).text = 0 := by unfold begX; rw [if_neg m2]; exact ct
                rw [if_neg m2]
                have hhd : CtlM (Ctl.head hq0) (begX { x with q := hstep x.q c } (hstep x.q c).major (hstep x.q c).arg) := ⟨hbt, by rw [hbd]; exact cd, by rw [hb2]; exact .inr ⟨i2, rfl, i1.wrong, rfl⟩⟩
                split
                · split
                  · intro h; cases h
                  · intro _; exact hhd
                · split
                  · intro _; exact hhd
                  · intro h; cases h
            · unfold begX; split <;> rfl
          | true =>
            have hE := hH.fin e3 hf e0 hd hen
            have hen2 : enter (st.map (Fr.feeds [c])) (hstep x.q c).major (hstep x.q c).arg = ⟨st.map (Fr.feeds [c]), .ended⟩ := by
              have e1 := enter_ended hen
              cases hh : enter (st.map (Fr.feeds [c])) (hstep x.q c).major (hstep x.q c).arg with
              | mk st2 k2 =>
                rw [hh] at e1 hen
                dsimp only at e1
                subst e1
                cases k2 <;> first | rfl | cases hen
            have hb2 : ∀ m g, (begX { x with q := hstep x.q c } m g).q = hstep x.q c := fun m g => by unfold begX; split <;> rfl
            refine ends_plain (n := hdN st (hstep x.q c)) (by rw [hnx, hen2]) hno ?_ (by show (1 : Int) ≠ 0; decide) (by rw [List.length_map]; rfl) hE (by rw [hb2]; exact i1) (by rw [hb2]; exact hok_step hok hq c) ?_ ?_ (by rw [hb2]; exact i2) ?_ (begX_handed _ _ _) ?_
            · rw [hev]
              unfold hdN
              congr 2
            · unfold begX; split
              · exact Nat.zero_le _
              · exact hu
            · unfold begX; split <;> exact hwr
            · unfold begX
              split
              · next m2 =>
                rw [(enter_text m2).1] at hen
                exact of_decide_eq_true hen
              · exact ct
            · unfold begX; split <;> rfl
      · left
        have e5 : herr x.q c = 5 := by rcases hq.err h0 h1 with h | h | h; exact absurd h e0; exact absurd h e2; exact h
        have := hH.e5 e2 e3 hf e0
        rw [e5] at this
        obtain ⟨r, hr⟩ := hnotes5 (D := D) (K := K) (i := i) e2' e3 hf (cs.err c ▸ e5)
        exact ⟨5, .of ⟨(i, 5), r, hr, rfl⟩, this⟩
  · obtain ⟨ct, cd, cm, cu, co⟩ := hc
    have hT := hp.text hS cd (by omega)
    have hB : bstep D K i ⟨st, .text n t u⟩ c = ⟨some (if n = 1 then ⟨st.map (Fr.feeds [c]), .ended⟩ else ⟨st.map (Fr.feeds [c]), .text (n - 1) t (if t then ustep u c else u)⟩), tnotes K i st n t u c, [⟨2, 0, 0, 0, c, st.length + 1, i⟩]⟩ := rfl
    cases hf : st.any (Fr.full K) with
    | true =>
      left
      obtain ⟨r, hr⟩ := tnotes4 (K := K) (i := i) (n := n) (t := t) (u := u) (c := c) hf
      exact ⟨4, .of ⟨(i, 4), r, hr, rfl⟩, hT.1 hf⟩
    | false =>
      have hT2 := hT.2 hf
      by_cases h6 : x.q.major = 3 ∧ won x.u (x.text - 1) c = false
      · left
        refine ⟨6, .of ⟨(i, 6), [], ?_, rfl⟩, hT2.1 h6⟩
        have ht : t = true := by rw [cm]; simpa using h6.1
        have hxu := cu ht
        rw [hB]
        show tnotes K i st n t u c = _
        unfold tnotes
        rw [if_neg (by simp [hf]), if_pos]
        · rfl
        · have h6' := h6.2
          unfold won at h6'
          rw [hxu, ct] at h6'
          rw [ht, huw]
          cases hw : (ustep u c).wr with
          | true => rfl
          | false =>
            rw [hw] at h6'
            simp at h6'
            have : n = 1 := by omega
            subst this
            simp [h6'.2]
      · have hno : (bstep D K i ⟨st, .text n t u⟩ c).notes = [] := by
          rw [hB]
          show tnotes K i st n t u c = _
          unfold tnotes
          rw [if_neg (by simp [hf]), if_neg]
          · rfl
          · intro hh
            apply h6
            simp only [Bool.and_eq_true] at hh
            obtain ⟨⟨ht, _⟩, h2⟩ := hh
            have hxu := cu ht
            refine ⟨by rw [ht] at cm; simpa using cm.symm, ?_⟩
            unfold won
            rw [hxu, ct]
            cases hw : (ustep u c).wr with
            | true => rfl
            | false =>
              rw [hw] at h2
              simp at h2
              rw [h2.1]
              simp [h2.2]
        have hev : (bstep D K i ⟨st, .text n t u⟩ c).evs = [⟨2, 0, 0, 0, c, st.length + 1, i⟩] := rfl
        have hul : (txtX x c).u.left ≤ 3 := by
          unfold txtX
          dsimp only
          split
          · exact ustep_left _ _ hu
          · exact hu
        by_cases hx1 : 1 < x.text
        · right
          have hnx : (bstep D K i ⟨st, .text n t u⟩ c).next = some ⟨st.map (Fr.feeds [c]), .text (n - 1) t (if t then ustep u c else u)⟩ := by rw [hB]; dsimp only; rw [if_neg (by omega)]
          have hfs := fstep_open hnx rfl
          refine ⟨by rw [hfs]; exact hno, ⟨st.map (Fr.feeds [c]), .text (n - 1) t (if t then ustep u c else u)⟩, txtN st c, txtX x c, ⟨by rw [hfs]; exact hnx, ?_, (hT2.2 h6).1 hx1, ⟨⟨?_, cd, cm, ?_, co⟩, hq, hok, hul, hwr⟩, rfl, rfl⟩⟩
          · rw [hfs, hev, evs_own (n := txtN st c) (show (2 : Int) ≠ 0 by decide) rfl]
            unfold txtN
            congr 2
          · show x.text - 1 = n - 1; rw [ct]
          · intro ht
            have h3 : x.q.major = 3 := by rw [ht] at cm; simpa using cm.symm
            show (if x.q.major = 3 then ustep x.u c else x.u) = _
            rw [if_pos h3, ht, if_pos rfl, cu ht]
        · have hn : n = 1 := by omega
          have hE := (hT2.2 h6).2 (by omega)
          refine ends_plain (n := txtN st c) (by rw [hB]; dsimp only; rw [if_pos hn]) hno ?_ (by show (2 : Int) ≠ 0; decide) (by rw [List.length_map]; rfl) hE hq hok hul hwr co (by show x.text - 1 = 0; omega) rfl rfl
          rw [hev]
          unfold txtN
          congr 2
  · left
    exact ⟨2, .of ⟨(i, 2), [], rfl, rfl⟩, hp.over hS hc.1⟩
end Go.Proofs.Ytchhbcmkhbfpoaa
