/- Package auto: Close, New, Whole. -/
import Derived.Test.YtchhbcmkhbfpoaaKBC
import Derived.Test.YtchhbcmkhbfpoaaKAE
import Derived.Deep.RegionLaw
import Derived.Test.YtchhbcmkhbfpoaaKAW
import Derived.Test.YtchhbcmkhbfpoaaKAX
import Derived.Test.YtchhbcmkhbfpoaaKAB
namespace Go.Proofs.Ytchhbcmkhbfpoaa
open Go.RowKit

/-- A verdict's cells. -/
def vcells (v : Int × Int) : Array Value := #[.int .i64 v.1, .int .i64 v.2]
theorem vd_zero : ∀ w, (zeroValue 51).run Try.prog w = .ok (.agg (vcells (0, 0))) w := (zero_of_info (n := 2) (by kernel_rfl)).1
theorem vd_info : (Try.prog.info? 51).map (·.size) = some 2 := by kernel_rfl
theorem vd_one (e p : Int) : (#[Value.int IntKind.i64 e, Value.int IntKind.i64 p] : Array Value).all (·.oneCell') = true := by
  rw [Array.all_eq_true_iff_forall_mem]
  intro x hx
  simp at hx
  rcases hx with rfl | rfl <;> rfl
def closeV (x : AC) : Int × Int := if x.wrong ≠ 0 then (x.wrong, x.handed - 1) else if x.done then (0, 0) else (9, x.handed)
set_option maxRecDepth 4000 in
theorem auto_Close (w : World) (a : Nat) (x : AC) (h : Blk w a 73 x.cells) (h0 : 0 ≤ x.handed) (h1 : x.handed < 4611686018427387905) :
    Calls Try.prog 15 #[.pointer (some ⟨a, 0, none⟩)] w fun e w' => e = .returned (.agg (vcells (closeV x))) ∧ Below w.heap.size w w' := by
  have hne : a ≠ w.heap.size := by have := h.lt; omega
  have S := below_alloc w (.cells #[.int .i64 0, .int .i64 0] 51)
  obtain ⟨_, _, _, _, _, c15, c16, c17, _⟩ := au_cells (h.on S)
  have b : Blk (w.alloc (.cells #[.int .i64 0, .int .i64 0] 51)) w.heap.size 51 #[.int .i64 0, .int .i64 0] := Blk.fresh _ _ _
  have HZ := vd_zero
  unfold vcells at HZ ⊢
  dsimp only at HZ ⊢
  have HS := Lib.hid S
  obtain ⟨w1, hw1⟩ : ∃ w1, w.alloc (.cells #[.int .i64 0, .int .i64 0] 51) = w1 := ⟨_, rfl⟩
  rw [hw1] at c15 c16 c17 b HS
  obtain ⟨D, K, SS, s, q, tx, u, hd, dn, wr⟩ := x
  dsimp only at c15 c16 c17 h0 h1
  by_cases hw : wr = 0
  · subst hw
    cases dn with
    | true =>
      have e : closeV ⟨D, K, SS, s, q, tx, u, hd, true, 0⟩ = (0, 0) := rfl
      rw [e]
      have b2 := b.setRow #[.int .i64 0, .int .i64 0]
      have HS2 := Lib.hid (below_row HS.out (Nat.le_refl _) #[.int .i64 0, .int .i64 0])
      have HSt := Lib.hid (run_store_all (P := Try.prog) (ty := 51) (c' := #[.int .i64 0, .int .i64 0]) b vd_info rfl (vd_one _ _))
      have HB2 := Lib.hid b2
      clear h S b b2 e
      go_enter Try.func15, Try.ntmps15
      go_wp2_with ((with_reducible refine is_store 51 rfl ?_); (with_reducible refine wpList_store_run rfl rfl HSt.out ?_ ?_ ?_); (· rfl); (· rfl))
      refine bodyPost_ret (results_blk rfl _ rfl HB2.out Try.underlying51 rfl vd_info) rfl ?_
      exact ⟨rfl, HS2.out⟩
    | false =>
      have e : closeV ⟨D, K, SS, s, q, tx, u, hd, false, 0⟩ = (9, hd) := rfl
      rw [e]
      have b2 := b.setRow #[.int .i64 9, .int .i64 hd]
      have HS2 := Lib.hid (below_row HS.out (Nat.le_refl _) #[.int .i64 9, .int .i64 hd])
      have HSt := Lib.hid (run_store_all (P := Try.prog) (ty := 51) (c' := #[.int .i64 9, .int .i64 hd]) b vd_info rfl (vd_one _ _))
      have HB2 := Lib.hid b2
      clear h S b b2 e
      go_enter Try.func15, Try.ntmps15
      go_wp2_with ((with_reducible refine is_store 51 rfl ?_); (with_reducible refine wpList_store_run rfl rfl HSt.out ?_ ?_ ?_); (· rfl); (· rfl))
      refine bodyPost_ret (results_blk rfl _ rfl HB2.out Try.underlying51 rfl vd_info) rfl ?_
      exact ⟨rfl, HS2.out⟩
  · have e : closeV ⟨D, K, SS, s, q, tx, u, hd, dn, wr⟩ = (wr, hd - 1) := if_pos hw
    rw [e]
    have HX : Hid (∀ q, (Instr.storeAt 51 (.pointer (some ⟨w.heap.size, 0, none⟩)) (.agg #[.int .i64 wr, .int .i64 (hd - 1)])).run Try.prog (w1.drewN q) = .ok () ((w1.drewN q).setRow w.heap.size #[.int .i64 wr, .int .i64 (hd - 1)]) ∧ Blk ((w1.drewN q).setRow w.heap.size #[.int .i64 wr, .int .i64 (hd - 1)]) w.heap.size 51 #[.int .i64 wr, .int .i64 (hd - 1)] ∧ Below w.heap.size w ((w1.drewN q).setRow w.heap.size #[.int .i64 wr, .int .i64 (hd - 1)])) := fun q => by
      have b' : Blk (w1.drewN q) w.heap.size 51 #[.int .i64 0, .int .i64 0] := b.drewN q
      exact ⟨run_store_all b' vd_info rfl (vd_one _ _), b'.setRow _, below_row (below_drawnN HS.out q) (Nat.le_refl _) _⟩
    have q1 : IntKind.i64.wrap (hd - 1) = hd - 1 := by rw [IntWalk.i64_in _ (by omega)]
    clear h S b e
    go_enter Try.func15, Try.ntmps15
    go_wp2_with fail
    refine wp_region_quiet_tail 10 (by kernel_rfl) (by kernel_rfl) ?_
    simp only [List.take_succ_cons, List.take_zero, List.drop_succ_cons, List.drop_zero]
    repeat (quiet_step (fail))
    refine wpQuiet_nil ?_
    rintro _ ⟨q0, rfl⟩
    obtain ⟨r1, r2, r3⟩ := HX.out q0
    have H1 := Lib.hid r1
    have H2 := Lib.hid r2
    have H3 := Lib.hid r3
    clear r1 r2 r3 HX
    go_wp2_with ((with_reducible refine is_store 51 rfl ?_); (with_reducible refine wpList_store_run rfl rfl H1.out ?_ ?_ ?_); (· rfl); (· rfl))
    refine bodyPost_ret (results_blk rfl _ rfl H2.out Try.underlying51 rfl vd_info) rfl ?_
    exact ⟨rfl, H3.out⟩

def ac0 (D K : Nat) (S : Int) (s : Nat) : AC := ⟨D, K, S, s, hq0, 0, uq0, 0, false, 0⟩
theorem am_zero (D K : Nat) (S : Int) (s : Nat) : AM aq0 (ac0 D K S s) := ⟨⟨rfl, rfl, .inl rfl⟩, .zero, hok_zero, Nat.zero_le _, rfl⟩
theorem au_zero : ∀ w, (zeroValue 73).run Try.prog w = .ok (.agg #[.int .i64 0, .int .i64 0, .int .i64 0, .pointer none, .int .i64 0, .int .i64 0, .int .u64 0, .int .i64 0, .bool false, .int .i64 0, .int .u64 0, .int .i64 0, .int .u8 0, .int .u8 0, .bool false, .int .i64 0, .bool false, .int .i64 0]) w := (zero_of_info (n := 18) (by kernel_rfl)).1
/-- A new automaton. -/
def NewP (D K : Nat) (S : Int) (w : World) (e : Ending) (w' : World) : Prop :=
  ∃ own a s f, e = .returned (.tuple #[.pointer (some ⟨a, 0, none⟩), .int .i64 0]) ∧ Aut w' own a f D K [] (ac0 D K S s) ∧ w.heap.size ≤ a ∧ (∀ j, own j ≠ 0 → w.heap.size ≤ j) ∧ Below w.heap.size w w'
set_option maxRecDepth 100000 in
set_option maxHeartbeats 4000000 in
theorem auto_New (w : World) (D K : Nat) (S : Int) (h1 : 1 ≤ D) (h2 : D ≤ 64) (k1 : 1 ≤ K) (k2 : K ≤ 1024) (s1 : 1 ≤ S) (s2 : S ≤ 2305843009213693951) :
    Calls Try.prog 6 #[vL D K S] w fun e w' => NewP D K S w e w' := by
  obtain ⟨w1, hw1, b1, S1⟩ := iblk1 w 24 #[.int .i64 D, .int .i64 K, .int .i64 S]
  obtain ⟨p0, p1, p2⟩ := lblk b1
  have hr : rightR D K S = 0 := by unfold rightR; rw [if_pos (rightL_true.2 ⟨by omega, by omega, by omega, by omega, s1, s2⟩)]
  have HC := Lib.hid (limit_Check D K S w1)
  rw [hr] at HC
  have HN := Lib.hid (fun v => frame_New v D K h1 h2 k1 k2)
  have HX : Hid (∀ w2 w5 own s f, Below w1.heap.size w1 w2 → StkR w5 own s f D K [] → (∀ j, own j ≠ 0 → w2.heap.size ≤ j ∧ j < w5.heap.size) → Below w2.heap.size w2 w5 →
      (w5.cell? ⟨w.heap.size, 0, none⟩ = some (.int .i64 D) ∧ w5.cell? ⟨w.heap.size, 1, none⟩ = some (.int .i64 K) ∧ w5.cell? ⟨w.heap.size, 2, none⟩ = some (.int .i64 S)) ∧
      NewP D K S w (.returned (.tuple #[.pointer (some ⟨w5.heap.size, 0, none⟩), .int .i64 0])) (w5.alloc (.cells #[.int .i64 D, .int .i64 K, .int .i64 S, .pointer (some ⟨s, 0, none⟩), .int .i64 0, .int .i64 0, .int .u64 0, .int .i64 0, .bool false, .int .i64 0, .int .u64 0, .int .i64 0, .int .u8 0, .int .u8 0, .bool false, .int .i64 0, .bool false, .int .i64 0] 73))) := fun w2 w5 own s f hb hs hl hb5 => by
    have h15 : Below w1.heap.size w1 w5 := hb.trans (hb5.mono hb.size)
    obtain ⟨c0, c1, c2⟩ := lblk (b1.on h15)
    have hw5 : Below w.heap.size w w5 := S1.trans (h15.mono S1.size)
    have hsz := hb.size
    have hsz1 := S1.size
    have hsz5 := hw5.size
    have hA := below_alloc w5 (.cells #[.int .i64 D, .int .i64 K, .int .i64 S, .pointer (some ⟨s, 0, none⟩), .int .i64 0, .int .i64 0, .int .u64 0, .int .i64 0, .bool false, .int .i64 0, .int .u64 0, .int .i64 0, .int .u8 0, .int .u8 0, .bool false, .int .i64 0, .bool false, .int .i64 0] 73)
    refine ⟨⟨c0, c1, c2⟩, own, w5.heap.size, s, f, rfl, ⟨Blk.fresh _ _ _, hs.on hA, ?_, rfl, rfl, fun j hj => Nat.lt_of_lt_of_le (hl j hj).2 hA.size⟩, hsz5, fun j hj => by have := (hl j hj).1; omega, hw5.trans (hA.mono hsz5)⟩
    apply Classical.byContradiction
    intro hn
    have := (hl _ hn).2
    omega
  have HZ := au_zero
  have hfol : Try.prog.follows Departure.mixedOrders = true := by kernel_rfl
  have HB1 := Lib.hid b1
  have HDw : Hid (∀ v : World, Below v.heap.size v v.drew) := fun v => below_drawn (Below.refl _ _)
  unfold vL
  clear S1 hr b1 h1 h2 k1 k2 s1 s2
  generalize NewP D K S w = Pz at *
  go_enter Try.func6, Try.ntmps6
  go_wp2_with fail
  refine HC.out.mono ?_
  rintro e w2 ⟨rfl, hb2⟩
  have HB2 := Lib.hid hb2
  obtain ⟨p0, p1, p2⟩ := lblk (HB1.out.on hb2)
  clear hb2 HC
  go_wp2_with fail
  go_region_with (go_at_call 23; refine (HN.out _).mono ?_; rintro e w5 ⟨own, s, f, rfl, hs, hl, hb⟩; obtain ⟨⟨u0, u1, u2⟩, u3⟩ := HX.out w2.drew w5 own s f (HB2.out.trans ((HDw.out w2).mono HB2.out.size)) hs hl hb; have HY := Lib.hid u3; clear hs hl hb u3)
  all_goals
    go_wp2_with fail
    refine bodyPost_ret (results_tmp2 rfl _ _ _) rfl ?_
    exact HY.out
theorem auto_New_bad (w : World) (d k s : Int) (h : rightL d k s = false) :
    Calls Try.prog 6 #[vL d k s] w fun e w' => e = .returned (.tuple #[.pointer none, .int .i64 15]) ∧ Below w.heap.size w w' := by
  obtain ⟨w1, hw1, b1, S1⟩ := iblk1 w 24 #[.int .i64 d, .int .i64 k, .int .i64 s]
  obtain ⟨p0, p1, p2⟩ := lblk b1
  have HC := Lib.hid (limit_Check d k s w1)
  rw [show rightR d k s = 15 by unfold rightR; rw [if_neg (by rw [h]; decide)]] at HC
  have HS := Lib.hid S1
  unfold vL at HC ⊢
  clear S1 b1 h
  go_enter Try.func6, Try.ntmps6
  go_wp2_with fail
  refine HC.out.mono ?_
  rintro e w2 ⟨rfl, hb2⟩
  have HB2 := Lib.hid (HS.out.trans (hb2.mono HS.out.size))
  clear hb2 HC
  go_wp2_with fail
  refine bodyPost_ret (results_tmp2 rfl _ _ _) rfl ?_
  exact ⟨rfl, HB2.out⟩
end Go.Proofs.Ytchhbcmkhbfpoaa

/- Package auto: events are told: hand, Step with somebody who is told. -/
namespace Go.Proofs.Ytchhbcmkhbfpoaa
open Go.RowKit

/-- An event as it is told. -/
def AEv.ec (e : AEv) : Array Value := #[.int .i64 e.kind, .int .i64 e.major, .int .i64 e.width, .int .u64 e.arg, .int .u8 e.byte, .int .i64 (e.deep : Int)]
/-- Who is told: what he has been told so far, R; he writes into the blocks T alone. -/
structure TellC (g : Nat) (lb : Array Value) (T : Nat → Prop) (R : List AEv → World → Prop) (all : List AEv) : Prop where
  tell : ∀ (told rest : List AEv) (e : AEv) (W : World), all = told ++ e :: rest → R told W → Calls Try.prog g (#[.agg e.ec] ++ lb) W fun r W' => r = .returned (.tuple #[]) ∧ R (told ++ [e]) W' ∧ Wi T W W'
  on : ∀ told W W', R told W → Below W.heap.size W W' → R told W'
theorem downs_deep (i e : Nat) (k : Nat) : ∀ x ∈ downs i e k, e + 1 ≤ x.deep ∧ x.deep ≤ e + k := by
  induction k with
  | zero => intro x h; cases h
  | succ k ih =>
    intro x h
    rcases List.mem_cons.1 h with rfl | h
    · show e + 1 ≤ e + 1 + k ∧ e + 1 + k ≤ _
      omega
    · have := ih x h; omega
theorem settle_deep (i : Nat) (st : List Fr) : ∀ x ∈ (settle i st).2.2, 1 ≤ x.deep ∧ x.deep ≤ st.length + 1 := by
  induction st with
  | nil => intro x h; rw [List.mem_singleton.1 h]; exact ⟨Nat.le_refl _, Nat.le_refl _⟩
  | cons y st ih =>
    intro x h
    unfold settle at h
    split at h
    · rw [List.mem_singleton.1 h]
      show 1 ≤ st.length + 2 ∧ st.length + 2 ≤ _
      rw [List.length_cons]
      omega
    · split at h
      · rcases List.mem_cons.1 h with rfl | h
        · show 1 ≤ st.length + 2 ∧ st.length + 2 ≤ _
          rw [List.length_cons]
          omega
        · have := ih x h
          rw [List.length_cons]
          omega
      · rw [List.mem_singleton.1 h]
        show 1 ≤ st.length + 2 ∧ st.length + 2 ≤ _
        rw [List.length_cons]
        omega
/-- How deep the events lie. -/
theorem fstep_deep {D K i : Nat} {s : AQ} {c : Int} : ∀ x ∈ (fstep D K i s c).evs, 1 ≤ x.deep ∧ x.deep ≤ s.st.length + 1 := by
  have hb : ∀ x ∈ (bstep D K i s c).evs, 1 ≤ x.deep ∧ x.deep ≤ s.st.length + 1 := by
    intro x h
    unfold bstep at h
    split at h
    · dsimp only at h
      split at h
      · rw [List.mem_singleton.1 h]; exact ⟨Nat.succ_pos _, Nat.le_refl _⟩
      · cases h
    · rw [List.mem_singleton.1 h]; exact ⟨Nat.succ_pos _, Nat.le_refl _⟩
    · cases h
    · cases h
  have hn : ∀ s', (bstep D K i s c).next = some s' → s'.isEnded = true → s'.st.length = s.st.length := by
    intro s' h he
    unfold bstep at h
    split at h
    · dsimp only at h
      split at h
      · injection h with h
        subst h
        rw [enter_ended he, List.length_map]
      · split at h
        · injection h with h; subst h; cases he
        · cases h
    · injection h with h
      split at h
      · subst h; exact List.length_map _
      · subst h; cases he
    · cases h
    · cases h
  intro x h
  unfold fstep at h
  split at h
  · exact hb x h
  · next s' hs =>
    split at h
    · next he =>
      dsimp only at h
      rcases List.mem_append.1 h with h | h
      · exact hb x h
      · have := settle_deep (i + 1) s'.st x h
        rw [hn s' hs he] at this
        exact this
    · exact hb x h
/-- What is known of the numbers of what is told. -/
theorem nw_bounds {n : NW} {i M : Nat} (h : ∀ x ∈ n.evs i, 1 ≤ x.deep ∧ x.deep ≤ M) (hk : n.kind ≠ 0) : (1 ≤ n.deep ∧ n.deep ≤ M) ∧ (n.ended ≠ 0 → 1 ≤ n.ended ∧ n.ended ≤ M) := by
  unfold NW.evs at h
  rw [if_neg hk] at h
  refine ⟨?_, fun he => ?_⟩
  · have := h _ List.mem_cons_self
    dsimp only at this
    omega
  · rw [if_neg he] at h
    have := h (endEv n.key n.ended.toNat (i + 1)) (List.mem_cons_of_mem _ (List.mem_append_right _ (List.mem_singleton.2 rfl)))
    unfold endEv at this
    dsimp only at this
    omega
theorem ec_zero : ∀ w, (zeroValue 42).run Try.prog w = .ok (.agg #[.int .i64 0, .int .i64 0, .int .i64 0, .int .u64 0, .int .u8 0, .int .i64 0]) w := (zero_of_info (n := 6) (by kernel_rfl)).1
set_option maxRecDepth 4000 in
set_option maxHeartbeats 1000000 in
theorem auto_hand (w : World) (g : Nat) (lb : Array Value) (T : Nat → Prop) (R : List AEv → World → Prop) (n : NW) (i M : Nat) (told rest : List AEv) (hT : TellC g lb T R (told ++ (n.evs i ++ rest))) (hR : R told w) (hTw : ∀ j, T j → j < w.heap.size) (hM : (M : Int) ≤ 1000) (hb : ∀ x ∈ n.evs i, 1 ≤ x.deep ∧ x.deep ≤ M)
    (hg : ∀ args w, (callFunc g args).run Try.prog w = .ok (.enter g args) w) :
    Calls Try.prog 28 #[.agg n.cells, .func (.func g) #[] lb] w fun e w' => e = .returned (.tuple #[]) ∧ R (told ++ n.evs i) w' ∧ Wi T w w' := by
  have hcases : n.evs i = [] ∧ n.kind = 0 ∨ (n.kind ≠ 0 ∧ n.ended = 0 ∧ n.evs i = [⟨n.kind, n.major, n.width, n.arg, n.byte, n.deep.toNat, i⟩]) ∨ (n.kind ≠ 0 ∧ n.ended ≠ 0 ∧ n.evs i = ⟨n.kind, n.major, n.width, n.arg, n.byte, n.deep.toNat, i⟩ :: (downs i n.ended.toNat (n.deep - n.ended).toNat ++ [endEv n.key n.ended.toNat (i + 1)])) := by
    unfold NW.evs
    by_cases h1 : n.kind = 0
    · left; rw [if_pos h1]; exact ⟨rfl, h1⟩
    · right
      rw [if_neg h1]
      by_cases h2 : n.ended = 0
      · left; rw [if_pos h2]; exact ⟨h1, h2, rfl⟩
      · right; rw [if_neg h2]; exact ⟨h1, h2, rfl⟩
  have hbd : n.kind ≠ 0 → (1 ≤ n.deep ∧ n.deep ≤ M) ∧ (n.ended ≠ 0 → 1 ≤ n.ended ∧ n.ended ≤ M) := nw_bounds hb
  generalize hev : n.evs i = ev at *
  clear hev hb
  obtain ⟨kd, mj, wd, ar, bt, dp, en, ky⟩ := n
  dsimp only at hcases hbd
  have b0 : Blk (w.alloc (.cells (NW.cells ⟨kd, mj, wd, ar, bt, dp, en, ky⟩) 78)) w.heap.size 78 (NW.cells ⟨kd, mj, wd, ar, bt, dp, en, ky⟩) := Blk.fresh _ _ _
  have S : Below w.heap.size w (w.alloc (.cells (NW.cells ⟨kd, mj, wd, ar, bt, dp, en, ky⟩) 78)) := below_alloc _ _
  have HR0 := Lib.hid (hT.on told w _ hR S)
  unfold NW.cells at b0 S HR0 ⊢
  dsimp only at b0 S HR0 ⊢
  obtain ⟨w1, hw1⟩ : ∃ w1, w.alloc (.cells #[.int .i64 kd, .int .i64 mj, .int .i64 wd, .int .u64 ar, .int .u8 bt, .int .i64 dp, .int .i64 en, .bool ky] 78) = w1 := ⟨_, rfl⟩
  rw [hw1] at b0 S HR0
  have hns : ¬ T w.heap.size := fun h => by have := hTw _ h; omega
  have HN : Hid (∀ W, Wi T w1 W → W.cell? ⟨w.heap.size, 0, none⟩ = some (.int .i64 kd) ∧ W.cell? ⟨w.heap.size, 1, none⟩ = some (.int .i64 mj) ∧ W.cell? ⟨w.heap.size, 2, none⟩ = some (.int .i64 wd) ∧ W.cell? ⟨w.heap.size, 3, none⟩ = some (.int .u64 ar) ∧ W.cell? ⟨w.heap.size, 4, none⟩ = some (.int .u8 bt) ∧ W.cell? ⟨w.heap.size, 5, none⟩ = some (.int .i64 dp) ∧ W.cell? ⟨w.heap.size, 6, none⟩ = some (.int .i64 en) ∧ W.cell? ⟨w.heap.size, 7, none⟩ = some (.bool ky)) := fun W hW => by
    have b := hW.blk b0 hns
    exact ⟨b.cell 0, b.cell 1, b.cell 2, b.cell 3, b.cell 4, b.cell 5, b.cell 6, b.cell 7⟩
  have HW : Hid (∀ W, Wi T w1 W → Wi T w W) := fun W hW => (Wi.ofBelow S).trans hW
  have HC := Lib.hid hT.tell
  obtain ⟨n0, n1, n2, n3, n4, n5, n6, n7⟩ := HN.out w1 Wi.refl
  have HZ := ec_zero
  clear hT hR S b0 hns hTw
  rcases hcases with ⟨rfl, rfl⟩ | ⟨hk, rfl, rfl⟩ | ⟨hk, he, rfl⟩
  · rw [List.append_nil]
    have HF := Lib.hid (HW.out w1 Wi.refl)
    clear HN HC HW hM hbd
    go_enter Try.func28, Try.ntmps28
    go_wp2_with fail
    refine bodyPost_ret (results_none rfl _ _ _) rfl ?_
    exact ⟨rfl, HR0.out, HF.out⟩
  · obtain ⟨⟨hd0, hd1⟩, -⟩ := hbd hk
    have hdd : ((dp.toNat : Nat) : Int) = dp := by omega
    have H1 : Hid (∀ W, R told W → Calls Try.prog g (#[.agg #[.int .i64 kd, .int .i64 mj, .int .i64 wd, .int .u64 ar, .int .u8 bt, .int .i64 dp]] ++ lb) W fun r W' => r = .returned (.tuple #[]) ∧ R (told ++ [⟨kd, mj, wd, ar, bt, dp.toNat, i⟩]) W' ∧ Wi T W W') := fun W hW => by
      have := HC.out told rest ⟨kd, mj, wd, ar, bt, dp.toNat, i⟩ W (by simp) hW
      unfold AEv.ec at this
      dsimp only at this
      rw [hdd] at this
      exact this
    clear HC hdd hd0 hd1 hM hbd
    go_enter Try.func28, Try.ntmps28
    go_wp2_with fail
    refine (H1.out _ HR0.out).mono ?_
    rintro e2 w2 ⟨rfl, hr2, hw2⟩
    obtain ⟨m0, m1, m2, m3, m4, m5, m6, m7⟩ := HN.out w2 hw2
    have HR2 := Lib.hid hr2
    have HW2 := Lib.hid hw2
    clear hr2 hw2
    go_wp2_with fail
    refine bodyPost_ret (results_none rfl _ _ _) rfl ?_
    exact ⟨rfl, HR2.out, HW.out _ HW2.out⟩
  · obtain ⟨⟨hd0, hd1⟩, hen⟩ := hbd hk
    obtain ⟨he0, he1⟩ := hen he
    have hdd : ((dp.toNat : Nat) : Int) = dp := by omega
    have hee : ((en.toNat : Nat) : Int) = en := by omega
    have H1 : Hid (∀ W, R told W → Calls Try.prog g (#[.agg #[.int .i64 kd, .int .i64 mj, .int .i64 wd, .int .u64 ar, .int .u8 bt, .int .i64 dp]] ++ lb) W fun r W' => r = .returned (.tuple #[]) ∧ R (told ++ [⟨kd, mj, wd, ar, bt, dp.toNat, i⟩]) W' ∧ Wi T W W') := fun W hW => by
      have := HC.out told _ ⟨kd, mj, wd, ar, bt, dp.toNat, i⟩ W (by rw [List.cons_append]) hW
      unfold AEv.ec at this
      dsimp only at this
      rw [hdd] at this
      exact this
    -- an end
    have H2 : Hid (∀ W t1 t2 (k x : Int) (b : Bool), k = (if b then 4 else 3) → told ++ (⟨kd, mj, wd, ar, bt, dp.toNat, i⟩ :: (downs i en.toNat (dp - en).toNat ++ [endEv ky en.toNat (i + 1)]) ++ rest) = t1 ++ endEv b x.toNat (i + 1) :: t2 → 0 ≤ x → R t1 W → Calls Try.prog g (#[.agg #[.int .i64 k, .int .i64 0, .int .i64 0, .int .u64 0, .int .u8 0, .int .i64 x]] ++ lb) W fun r W' => r = .returned (.tuple #[]) ∧ R (t1 ++ [endEv b x.toNat (i + 1)]) W' ∧ Wi T W W') := fun W t1 t2 k x b hkb hall hx hW => by
      have := HC.out t1 t2 (endEv b x.toNat (i + 1)) W hall hW
      unfold AEv.ec endEv at this
      dsimp only at this
      rw [show ((x.toNat : Nat) : Int) = x by omega] at this
      rw [hkb]
      exact this
    have HL := Lib.hid (fun _ : Unit => (And.intro hd0 (And.intro hd1 (And.intro he0 (And.intro he1 (And.intro hM hee))))))
    have hM2 : dp ≤ 1000 := by omega
    clear HC hdd hd1 hM hbd hen hee he1
    go_enter Try.func28, Try.ntmps28
    go_wp2_with fail
    refine (H1.out _ HR0.out).mono ?_
    rintro e2 w2 ⟨rfl, hr2, hw2⟩
    obtain ⟨m0, m1, m2, m3, m4, m5, m6, m7⟩ := HN.out w2 hw2
    have HR2 := Lib.hid hr2
    have HW2 := Lib.hid hw2
    clear hr2 hw2
    go_wp2_with fail
    rw [show (en == 0) = false by simp [he]]
    go_loopw [4] (fun v wr => ∃ (dv : Int) (t1 : List AEv), v = .int .i64 dv ∧ dv ≤ 1000 ∧ 0 ≤ dv ∧ Hid (told ++ (⟨kd, mj, wd, ar, bt, dp.toNat, i⟩ :: (downs i en.toNat (dp - en).toNat ++ [endEv ky en.toNat (i + 1)])) = t1 ++ (downs i en.toNat (dv - en).toNat ++ [endEv ky en.toNat (i + 1)])) ∧ Hid (R t1 wr) ∧ Hid (Wi T w1 wr)) (fun v _ => (intOf v - en).toNat)
    case atStart => exact ⟨dp, told ++ [(⟨kd, mj, wd, ar, bt, dp.toNat, i⟩ : AEv)], rfl, hM2, by omega, (show _ = _ by simp), HR2, HW2⟩
    case round =>
      obtain ⟨dv, t1, rfl, hdv, hdv0, HE, HRt, HWt⟩ := hrel
      obtain ⟨q0, q1, q2, q3, q4, q5, q6, q7⟩ := HN.out wr HWt.out
      by_cases hlt : en < dv
      · have hm : (dv - en).toNat = (dv - 1 - en).toNat + 1 := by omega
        have HC2 : Hid (Calls Try.prog g (#[.agg #[.int .i64 3, .int .i64 0, .int .i64 0, .int .u64 0, .int .u8 0, .int .i64 dv]] ++ lb) wr fun r W' => r = .returned (.tuple #[]) ∧ Hid (told ++ (⟨kd, mj, wd, ar, bt, dp.toNat, i⟩ :: (downs i en.toNat (dp - en).toNat ++ [endEv ky en.toNat (i + 1)])) = (t1 ++ [endEv false dv.toNat (i + 1)]) ++ (downs i en.toNat (dv - 1 - en).toNat ++ [endEv ky en.toNat (i + 1)])) ∧ R (t1 ++ [endEv false dv.toNat (i + 1)]) W' ∧ Wi T w1 W') := by
          have hE := HE.out
          rw [hm] at hE
          have hx : en.toNat + 1 + (dv - 1 - en).toNat = dv.toNat := by omega
          have hdn : downs i en.toNat ((dv - 1 - en).toNat + 1) = endEv false dv.toNat (i + 1) :: downs i en.toNat (dv - 1 - en).toNat := by
            show endEv false (en.toNat + 1 + (dv - 1 - en).toNat) (i + 1) :: _ = _
            rw [hx]
          rw [hdn] at hE
          refine (H2.out wr t1 (downs i en.toNat (dv - 1 - en).toNat ++ [endEv ky en.toNat (i + 1)] ++ rest) 3 dv false rfl ?_ hdv0 HRt.out).mono ?_
          · rw [← List.append_assoc, hE]; simp
          · rintro r W' ⟨rfl, hr, hw⟩
            exact ⟨rfl, by rw [hE]; show _ = _; simp, hr, HWt.out.trans hw⟩
        clear H1 H2 HE HRt HWt HL hm
        go_wp2_with fail
        refine HC2.out.mono ?_
        rintro e3 w3 ⟨rfl, HE3, hr3, hw3⟩
        have HR3 := Lib.hid hr3
        have HW3 := Lib.hid hw3
        clear hr3 hw3
        go_wp2_with fail
        go_roundw
        case rel =>
          exact ⟨dv - 1, _, by go_num, by omega, by omega, HE3, HR3, HW3⟩
        case measure => simp [intOf]; omega
      · have hm : (dv - en).toNat = 0 := by omega
        have HC2 : Hid (∀ k : Int, k = (if ky then 4 else 3) → Calls Try.prog g (#[.agg #[.int .i64 k, .int .i64 0, .int .i64 0, .int .u64 0, .int .u8 0, .int .i64 en]] ++ lb) wr fun r W' => r = .returned (.tuple #[]) ∧ R (told ++ (⟨kd, mj, wd, ar, bt, dp.toNat, i⟩ :: (downs i en.toNat (dp - en).toNat ++ [endEv ky en.toNat (i + 1)]))) W' ∧ Wi T w1 W') := fun k hkk => by
          have hE := HE.out
          rw [hm] at hE
          have hdn : downs i en.toNat 0 = [] := rfl
          rw [hdn, List.nil_append] at hE
          refine (H2.out wr t1 rest k en ky hkk ?_ (by omega) HRt.out).mono ?_
          · rw [← List.append_assoc, hE]; simp
          · rintro r W' ⟨rfl, hr, hw⟩
            exact ⟨rfl, by rw [hE]; exact hr, HWt.out.trans hw⟩
        clear H1 H2 HE HRt HWt HL hm
        cases ky with
        | false =>
          have HC3 := Lib.hid (HC2.out 3 rfl)
          clear HC2
          go_wp2_with fail
          refine HC3.out.mono ?_
          rintro e3 w3 ⟨rfl, hr3, hw3⟩
          have HR3 := Lib.hid hr3
          have HW3 := Lib.hid hw3
          clear hr3 hw3
          go_wp2_with fail
          go_end0
          exact ⟨rfl, HR3.out, HW.out _ HW3.out⟩
        | true =>
          have HC3 := Lib.hid (HC2.out 4 rfl)
          clear HC2
          go_wp2_with fail
          refine HC3.out.mono ?_
          rintro e3 w3 ⟨rfl, hr3, hw3⟩
          have HR3 := Lib.hid hr3
          have HW3 := Lib.hid hw3
          clear hr3 hw3
          go_wp2_with fail
          go_end0
          exact ⟨rfl, HR3.out, HW.out _ HW3.out⟩
end Go.Proofs.Ytchhbcmkhbfpoaa

/- Package auto: Step with somebody who is told; Step behind a wrong byte. -/
namespace Go.Proofs.Ytchhbcmkhbfpoaa
open Go.RowKit

set_option maxRecDepth 4000 in
set_option maxHeartbeats 1000000 in
theorem auto_StepT (w : World) (own : Nat → Nat) (a f D K i : Nat) (s : AQ) (x : AC) (c : Int) (h : Aut w own a f D K s.st x) (hO : AOk D K s) (hM : AM s x) (h0 : 0 ≤ c) (h1 : c < 256) (hi : x.handed = i) (hi2 : (i : Int) < 4611686018427387904) (hk : stepK x.S i (fstep D K i s c) = 0) (hD : D ≤ 64)
    (g : Nat) (lb : Array Value) (T : Nat → Prop) (R : List AEv → World → Prop) (told rest : List AEv) (hT : TellC g lb T R (told ++ ((fstep D K i s c).evs ++ rest))) (hR : R told w) (hTw : ∀ j, T j → j < w.heap.size) (hTa : ∀ j, T j → ¬ SA own a j) (hRa : ∀ W, R told w → Wi (SA own a) w W → R told W)
    (hg : ∀ args w, (callFunc g args).run Try.prog w = .ok (.enter g args) w) :
    Calls Try.prog 11 #[.pointer (some ⟨a, 0, none⟩), .int .u8 c, .func (.func g) #[] lb] w fun e w' => StepO own a f D K i s x c e w' ∧ R (told ++ (fstep D K i s c).evs) w' ∧ Wi (fun j => SA own a j ∨ T j) w w' := by
  have HT : Hid (Calls Try.prog 27 #[.pointer (some ⟨a, 0, none⟩), .int .u8 c] w fun e w' => ∃ n : NW, e = .returned (.tuple #[.agg n.cells, .int .i64 0]) ∧ n.evs i = (fstep D K i s c).evs ∧ (∃ s' x', (fstep D K i s c).next = some s' ∧ Aut w' own a f D K s'.st x' ∧ AM s' x' ∧ x'.handed = i ∧ x'.S = x.S) ∧ Wi (SA own a) w w') := by
    refine (take_ok (c := c) w h hO hM h0 h1 hi hk).mono ?_
    rintro e w' ⟨⟨s', n, x', G⟩, hw⟩
    exact ⟨n, G.ok.1, G.evs, ⟨s', x', G.next, G.ok.2, G.am, G.handed.trans hi, G.S⟩, hw⟩
  have c17 := (au_cells h.blk).2.2.2.2.2.2.2.1
  rw [hM.wrong] at c17
  have HD := Lib.hid (fun e he => fstep_deep (D := D) (K := K) (i := i) (s := s) (c := c) e he)
  have hlen : s.st.length ≤ D := hO.len
  have HX : Hid (∀ w2 (n : NW), n.evs i = (fstep D K i s c).evs → (∃ s' x', (fstep D K i s c).next = some s' ∧ Aut w2 own a f D K s'.st x' ∧ AM s' x' ∧ x'.handed = i ∧ x'.S = x.S) → Wi (SA own a) w w2 → (Instr.storeAt 78 (.pointer (some ⟨w2.heap.size, 0, none⟩)) (.agg n.cells)).run Try.prog (w2.alloc (.cells nw0.cells 78)) = .ok () ((w2.alloc (.cells nw0.cells 78)).setRow w2.heap.size n.cells) ∧
    ∀ w4, (w2.alloc (.cells nw0.cells 78)).setRow w2.heap.size n.cells = w4 → (w4.cell? ⟨a, 15, none⟩ = some (.int .i64 i) ∧ w4.frozen? ⟨a, 15, none⟩ = false) ∧
    ∀ w5, w4.setCell ⟨a, 15, none⟩ (.int .i64 ((i : Int) + 1)) = w5 → ((∃ v, w5.cell? ⟨a, 17, none⟩ = some v) ∧ w5.frozen? ⟨a, 17, none⟩ = false) ∧
    ∀ w6, w5.setCell ⟨a, 17, none⟩ (.int .i64 0) = w6 → (∀ j v, n.cells[j]? = some v → w6.cell? ⟨w2.heap.size, j, none⟩ = some v) ∧
      Calls Try.prog 28 #[.agg n.cells, .func (.func g) #[] lb] w6 fun e w' => e = .returned (.tuple #[]) ∧ StepO own a f D K i s x c (.returned (.int .i64 0)) w' ∧ R (told ++ (fstep D K i s c).evs) w' ∧ Wi (fun j => SA own a j ∨ T j) w w') := by
    rintro w2 n hev ⟨s', x', hn, A, hm, hh, hS⟩ hw
    obtain ⟨t1, t2⟩ := step_tail A nw0 n
    refine ⟨t1, fun w4 h4 => ?_⟩
    obtain ⟨⟨t3, t4⟩, t5⟩ := t2 w4 h4
    refine ⟨⟨by rw [t3, hh], t4⟩, fun w5 h5 => ?_⟩
    obtain ⟨⟨t6, t7⟩, t8⟩ := t5 _ w5 h5
    refine ⟨⟨⟨_, t6⟩, t7⟩, fun w6 h6 => ?_⟩
    obtain ⟨t9, t11, t10⟩ := t8 0 w6 h6
    have hw6 := hw.trans t10
    refine ⟨fun j v hj => (t11.cell j).trans hj, ?_⟩
    have hT' := hT
    rw [← hev] at hT' HD ⊢
    refine (auto_hand w6 g lb T R n i (s.st.length + 1) told rest hT' (hRa w6 hR hw6) (fun j hj => Nat.lt_of_lt_of_le (hTw j hj) hw6.size) (by omega) HD.out hg).mono ?_
    rintro e w7 ⟨rfl, hr, hw7⟩
    exact ⟨rfl, ⟨rfl, s', _, hn, t9.wi hw7 hTa, ⟨hm.ctl, hm.hq, hm.hok, hm.hu, rfl⟩, rfl, hS⟩, hr, (hw6.mono fun _ h => .inl h).trans (hw7.mono fun _ h => .inr h)⟩
  have HZ := nw_zero
  generalize nw0.cells = N0 at *
  clear h hO hM h0 h1 hi hk HD hlen hT hR hTw hTa hRa
  generalize hPz : StepO own a f D K i s x c = Pz at *
  clear hPz
  generalize (fstep D K i s c).evs = evs at *
  have hi0 : (0 : Int) ≤ (i : Int) := by omega
  generalize (i : Int) = I at *
  have RF := run_tell_func
  go_enter Try.func11, Try.ntmps11
  go_wp2_with fail
  refine HT.out.mono ?_
  rintro e w2 ⟨n, rfl, hev, hx, hw⟩
  obtain ⟨t1, t2⟩ := HX.out w2 n hev hx hw
  have H1 := Lib.hid t1
  have H2 := Lib.hid (t2 _ rfl)
  clear t1 t2 hx hw HX HT hev
  obtain ⟨kd, mj, wd, ar, bt, dp, en, ky⟩ := n
  unfold NW.cells at H1 H2 ⊢
  dsimp only at H1 H2 ⊢
  obtain ⟨w4, hw4⟩ : ∃ w4, (w2.alloc (.cells N0 78)).setRow w2.heap.size #[.int .i64 kd, .int .i64 mj, .int .i64 wd, .int .u64 ar, .int .u8 bt, .int .i64 dp, .int .i64 en, .bool ky] = w4 := ⟨_, rfl⟩
  rw [hw4] at H1 H2
  obtain ⟨⟨q1, q2⟩, q3⟩ := H2.out
  obtain ⟨w5, hw5⟩ : ∃ w5, w4.setCell ⟨a, 15, none⟩ (.int .i64 (I + 1)) = w5 := ⟨_, rfl⟩
  obtain ⟨⟨⟨v, q4⟩, q5⟩, q6⟩ := q3 _ hw5
  obtain ⟨w6, hw6⟩ : ∃ w6, w5.setCell ⟨a, 17, none⟩ (.int .i64 0) = w6 := ⟨_, rfl⟩
  obtain ⟨q7, q8⟩ := q6 _ hw6
  have HF := Lib.hid q8
  have r0 := q7 0 _ rfl
  have r1 := q7 1 _ rfl
  have r2 := q7 2 _ rfl
  have r3 := q7 3 _ rfl
  have r4 := q7 4 _ rfl
  have r5 := q7 5 _ rfl
  have r6 := q7 6 _ rfl
  have r7 := q7 7 _ rfl
  clear q3 q6 H2 q7 q8
  go_wp2_with ((with_reducible refine is_store 78 rfl ?_); (with_reducible refine wpList_store_run rfl rfl H1.out ?_ ?_ ?_); (· rfl); (· rfl))
  refine HF.out.mono ?_
  rintro e w7 ⟨rfl, p1, p2, p3⟩
  have HG := Lib.hid (And.intro p1 (And.intro p2 p3))
  clear p1 p2 p3 HF
  go_wp2_with fail
  go_ret
  exact HG.out
/-- Behind a wrong byte: the verdict's error again. -/
theorem auto_StepW (w : World) (a : Nat) (x : AC) (c : Int) (V : Value) (h : Blk w a 73 x.cells) (hk : x.wrong ≠ 0) :
    Calls Try.prog 11 #[.pointer (some ⟨a, 0, none⟩), .int .u8 c, V] w fun e w' => e = .returned (.int .i64 x.wrong) ∧ w' = w := by
  have c17 := (au_cells h).2.2.2.2.2.2.2.1
  clear h
  generalize x.wrong = k at *
  go_enter Try.func11, Try.ntmps11
  go_wp2_with fail
  go_ret
  exact ⟨rfl, rfl⟩
end Go.Proofs.Ytchhbcmkhbfpoaa

/- Append of a slice that reads as cells to one of the call's own, as an arm of a region that draws. -/
namespace Go.Proofs.Ytchhbcmkhbfpoaa
open Go.RowKit

/-- A slice reads as these cells. -/
def RdC (w : World) (y : Value) (xs : List Value) : Prop := ∃ A cap, y = .slice A xs.length cap ∧ (A = none → cap = 0) ∧ (0 < xs.length → ∃ b o, A = some ⟨b, o, none⟩ ∧ ∀ j, j < xs.length → w.cell? ⟨b, o + j, none⟩ = xs[j]?)
section
variable {P : Program}
theorem run_append_row {w : World} {B : Nat} {t ty e : TypeId} {bytes : Nat} {v y z : Value} {n : Nat} {cs xs : List Value} (ht : P.underlying t = some (.slice e))
    (hi : (P.info? e).map (fun i => (i.zero, i.size, i.bytes)) = some (some z, 1, bytes)) (hz : z.cells.size = 1) (hby : bytes ≤ 64)
    (hown : w.ownsRow B e 1 v n cs) (hr : RdC w y xs) (h1 : ∀ u ∈ xs, u.oneCell' = true) (hb : n + xs.length ≤ 1099511627776) (hB : B ≤ w.heap.size) :
    ∃ v' w', (Builtin.append_ #[t, t] ty #[v, y]).run P w = .ok v' w' ∧ w'.ownsRow B e 1 v' (n + xs.length) (cs ++ xs) ∧ Below B w w' ∧ w.grownBy w' v.ownBlock := by
  obtain ⟨A, cap, rfl, hn, hc⟩ := hr
  cases A with
  | none =>
    obtain rfl := hn rfl
    have hx : xs = [] := by
      rcases xs with _ | ⟨x, r⟩
      · rfl
      · obtain ⟨b, o, h, _⟩ := hc (by simp)
        cases h
    subst hx
    obtain ⟨i, hi0, hz0, hz1, hz2⟩ := info_parts hi
    exact ⟨v, w, run_append_owned_none (P := P) w B t ty e i 1 ht hi0 v _ _ hown, by simpa using hown, Below.refl _ _, World.grownBy.refl _ _⟩
  | some ad =>
    obtain ⟨v', w', r1, r2, r3, r4, _⟩ := oc_append (P := P) (t := t) (ty := ty) (e := e) (s := 1) (bytes := bytes) (m := xs.length) (c := cap) (news := xs) (a := ad) ht hi hz (by decide) hby hown (by omega)
      (fun j u hj => by
        have hj' : j < xs.length := by
          rcases Nat.lt_or_ge j xs.length with h | h
          · exact h
          · rw [List.getElem?_eq_none h] at hj; cases hj
        obtain ⟨b, o, hA, hcell⟩ := hc (by omega)
        injection hA with hA
        subst hA
        rw [Addr.add_mid, hcell j hj']
        exact hj) h1 hb hB
    exact ⟨v', w', r1, r2, r3, r4⟩
/-- For an arm of a region that draws: append of such a slice to one of the call's own. -/
theorem step_append_row {ops : Array Oper} {o : Oper} {a : Act} {w : World} {K : Act → World → Prop} {Q : Exit → Act → World → Prop} {E : Prop} (hgd : o.guard = none) {s x : Operand} {t e : TypeId}
    (ho : o.op = .call { callee := .builtin .append, args := #[s, x], argTypes := #[t, t] }) {B bytes : Nat} {v y z : Value} {n : Nat} {cs xs : List Value} (hs : a.eval s = v) (hx : a.eval x = y)
    (ht : P.underlying t = some (.slice e)) (hi : (P.info? e).map (fun i => (i.zero, i.size, i.bytes)) = some (some z, 1, bytes)) (hz : z.cells.size = 1) (hby : bytes ≤ 64)
    (hown : w.ownsRow B e 1 v n cs) (hr : RdC w y xs) (h1 : ∀ u ∈ xs, u.oneCell' = true) (hb : n + xs.length ≤ 1099511627776) (hB : B ≤ w.heap.size)
    (h : ∀ v' w', w'.ownsRow B e 1 v' (n + xs.length) (cs ++ xs) → Below B w w' → w.grownBy w' v.ownBlock → K (a.put o.dst v') w') : if Region.wanted o (yielded ops a.tmps) = true then Oper.wp P o a w K Q else E := by
  obtain ⟨v', w', r1, r2, r3, r4⟩ := run_append_row (ty := o.type) ht hi hz hby hown hr h1 hb hB
  exact step_append_run hgd ho r1 hs hx (h v' w' r2 r3 r4)
end

theorem RdC.on {w w' : World} {y : Value} {xs : List Value} (h : RdC w y xs) (hb : Below w.heap.size w w') : RdC w' y xs := by
  obtain ⟨A, cap, h1, h2, h3⟩ := h
  refine ⟨A, cap, h1, h2, fun hp => ?_⟩
  obtain ⟨b, o, hA, hc⟩ := h3 hp
  refine ⟨b, o, hA, fun j hj => ?_⟩
  have h4 := hc j hj
  rw [List.getElem?_eq_getElem hj] at h4 ⊢
  rw [hb.cell (p := ⟨b, o + j, none⟩) (block_lt_of_cell h4)]
  exact h4
/-- A block of another type is left alone. -/
theorem blk_grown {w w' : World} {B g s n : Nat} {e t : TypeId} {v : Value} {cs : List Value} {zs : Array Value} (hb : Blk w g t zs) (h : w.ownsRow B e s v n cs) (ht : t ≠ e) (hg : w.grownBy w' v.ownBlock) : Blk w' g t zs := by
  refine (hg.block g hb.lt ?_).trans hb
  intro he
  rcases h.2 with ⟨rfl, _⟩ | ⟨g', cap, cur, rfl, _, hh, _⟩
  · cases he
  · have e' : g = g' := by simpa [Value.ownBlock] using he
    subst e'
    have := hb.symm.trans hh
    injection this with this
    injection this with _ h2 _
    exact ht h2
theorem Rd.rdc {w : World} {k : IntKind} {A : Option Addr} {zs : List Int} {cap : Nat} (h : Rd w w.heap.size k A zs) (hn : A = none → cap = 0) : RdC w (.slice A zs.length cap) (zs.map (Value.int k)) := by
  refine ⟨A, cap, by rw [List.length_map], hn, fun hp => ?_⟩
  rw [List.length_map] at hp
  obtain ⟨b, o, hA, _, hc⟩ := h hp
  refine ⟨b, o, hA, fun j hj => ?_⟩
  rw [List.length_map] at hj
  rw [hc j hj, List.getElem?_map, List.getElem?_eq_getElem hj]
  simp [List.getD_eq_getElem?_getD, hj]
theorem rd_owned {w : World} {B n : Nat} {e : TypeId} {k : IntKind} {v : Value} {zs : List Int} (h : w.ownsRow B e 1 v n (zs.map (Value.int k))) (hn : n = zs.length) : ∃ A cap, v = .slice A zs.length cap ∧ Rd w w.heap.size k A zs := by
  subst hn
  have ho : Own w B k e v zs := h
  obtain ⟨A, cap, h1, _, _, _, _, h2⟩ := ho.form
  exact ⟨A, cap, h1, h2⟩
end Go.Proofs.Ytchhbcmkhbfpoaa

/- The document's scan (layer 14) in memory: note. -/
namespace Go.Proofs.Ytchhbcmkhbfpoaa
open Go.RowKit

/-- An event's cells. -/
def AEv.cells (e : AEv) : List Value := [.int .i64 e.kind, .int .i64 e.major, .int .i64 e.width, .int .i64 e.deep, .int .i64 e.pl, .int .u64 e.arg, .int .u8 e.byte]
def evCells : List AEv → List Value
  | [] => []
  | e :: r => e.cells ++ evCells r
theorem length_evCells (l : List AEv) : (evCells l).length = l.length * 7 := by
  induction l with
  | nil => rfl
  | cons e r ih => unfold evCells; rw [List.length_append, ih]; simp [AEv.cells]; omega
theorem evCells_append (a b : List AEv) : evCells (a ++ b) = evCells a ++ evCells b := by
  induction a with
  | nil => rfl
  | cons e r ih => simp [evCells, ih]
theorem evCells_get {l : List AEv} {i j : Nat} {e : AEv} (h : l[i]? = some e) (hj : j < 7) : (evCells l)[i * 7 + j]? = e.cells[j]? := by
  induction l generalizing i with
  | nil => cases h
  | cons y r ih =>
    unfold evCells
    cases i with
    | zero =>
      simp only [List.getElem?_cons_zero, Option.some.injEq] at h
      subst h
      rw [Nat.zero_mul, Nat.zero_add, List.getElem?_append_left (by simpa [AEv.cells] using hj)]
    | succ i =>
      rw [List.getElem?_append_right (by simp [AEv.cells]; omega), show (i + 1) * 7 + j - y.cells.length = i * 7 + j by simp [AEv.cells]; omega]
      exact ih (by simpa using h)
def scells (A : Option Addr) (n cap : Nat) (d k s : Int) (vA vE vV : Value) : Array Value := #[.slice A n cap, .int .i64 d, .int .i64 k, .int .i64 s, vA, vE, vV]
/-- A scan in block g: its bytes, limits, what it noted, the events; its lists lie behind block B. -/
structure SnV (w : World) (B g : Nat) (A : Option Addr) (cap : Nat) (L : List Int) (d k s : Int) (N : List Note) (E : List AEv) (vA vE vV : Value) : Prop where
  blk : Blk w g 46 (scells A L.length cap d k s vA vE vV)
  at_ : w.ownsRow B 3 1 vA N.length (N.map fun n => .int .i64 (n.1 : Int))
  er : w.ownsRow B 3 1 vE N.length (N.map fun n => .int .i64 n.2)
  ev : w.ownsRow B 48 7 vV E.length (evCells E)
  ne : vA.ownBlock = none ∨ vA.ownBlock ≠ vE.ownBlock
  rd : Rd w B .u8 A L
  ge : B ≤ g
def Sn (w : World) (B g : Nat) (A : Option Addr) (cap : Nat) (L : List Int) (d k s : Int) (N : List Note) (E : List AEv) : Prop := ∃ vA vE vV, SnV w B g A cap L d k s N E vA vE vV
theorem own_diff {w : World} {B B' s1 s2 n1 n2 : Nat} {e1 e2 : TypeId} {v1 v2 : Value} {c1 c2 : List Value} (h1 : w.ownsRow B e1 s1 v1 n1 c1) (h2 : w.ownsRow B' e2 s2 v2 n2 c2) (he : e1 ≠ e2) : v1.ownBlock = none ∨ v1.ownBlock ≠ v2.ownBlock := by
  rcases h1.2 with ⟨rfl, _⟩ | ⟨g, cap, cur, rfl, _, hh, _⟩
  · left; rfl
  · right
    rcases h2.2 with ⟨rfl, _⟩ | ⟨g', cap', cur', rfl, _, hh', _⟩
    · simp [Value.ownBlock]
    · intro e
      have e' : g = g' := by simpa [Value.ownBlock] using e
      subst e'
      rw [hh] at hh'
      injection hh' with hh'
      injection hh' with _ hh' _
      exact he hh'
theorem own_ltb {w : World} {B s n : Nat} {e : TypeId} {v : Value} {c : List Value} (h : w.ownsRow B e s v n c) : v.ownBlock = none ∨ ∃ g, v.ownBlock = some g ∧ B ≤ g ∧ g < w.heap.size := by
  rcases h.2 with ⟨rfl, _⟩ | ⟨g, cap, cur, rfl, hb, hh, _⟩
  · left; rfl
  · right; exact ⟨g, rfl, hb, (Array.getElem?_eq_some_iff.1 hh).1⟩
section
variable {w w' : World} {B g : Nat} {A : Option Addr} {cap : Nat} {L : List Int} {d k s : Int} {N : List Note} {E : List AEv} {vA vE vV : Value}
theorem SnV.on (h : SnV w B g A cap L d k s N E vA vE vV) (hb : Below w.heap.size w w') (hB : B ≤ w.heap.size) : SnV w' B g A cap L d k s N E vA vE vV :=
  ⟨h.blk.on hb, oc_on h.at_ hb, oc_on h.er hb, oc_on h.ev hb, h.ne, h.rd.below (hb.mono hB), h.ge⟩
theorem Sn.on (h : Sn w B g A cap L d k s N E) (hb : Below w.heap.size w w') (hB : B ≤ w.heap.size) : Sn w' B g A cap L d k s N E := let ⟨a, b, c, h⟩ := h; ⟨a, b, c, h.on hb hB⟩
theorem SnV.lt (h : SnV w B g A cap L d k s N E vA vE vV) : g < w.heap.size := h.blk.lt
theorem SnV.cells (h : SnV w B g A cap L d k s N E vA vE vV) : w.cell? ⟨g, 0, none⟩ = some (.slice A L.length cap) ∧ w.cell? ⟨g, 1, none⟩ = some (.int .i64 d) ∧ w.cell? ⟨g, 2, none⟩ = some (.int .i64 k) ∧ w.cell? ⟨g, 3, none⟩ = some (.int .i64 s) ∧ w.cell? ⟨g, 4, none⟩ = some vA ∧ w.cell? ⟨g, 5, none⟩ = some vE ∧ w.cell? ⟨g, 6, none⟩ = some vV ∧ ∀ i, w.frozen? ⟨g, i, none⟩ = false :=
  ⟨h.blk.cell 0, h.blk.cell 1, h.blk.cell 2, h.blk.cell 3, h.blk.cell 4, h.blk.cell 5, h.blk.cell 6, h.blk.free⟩
end
section
variable {P : Program}
/-- For an arm of a region that draws: append of a slice whose cells are known to one of the call's own. -/
theorem step_append_at {ops : Array Oper} {o : Oper} {a : Act} {w : World} {K : Act → World → Prop} {Q : Exit → Act → World → Prop} {F : Prop} (hgd : o.guard = none) {s x : Operand} {t e : TypeId}
    (ho : o.op = .call { callee := .builtin .append, args := #[s, x], argTypes := #[t, t] }) {B bytes sz : Nat} {v z : Value} {n m c : Nat} {cs news : List Value} {ad : Addr} (hs : a.eval s = v) (hx : a.eval x = .slice (some ad) m c)
    (ht : P.underlying t = some (.slice e)) (hi : (P.info? e).map (fun i => (i.zero, i.size, i.bytes)) = some (some z, sz, bytes)) (hz : z.cells.size = sz) (h0 : 0 < sz) (hby : bytes ≤ 64)
    (hown : w.ownsRow B e sz v n cs) (hl : news.length = m * sz) (hc : ∀ j u, news[j]? = some u → w.cell? (ad.add j) = some u) (h1 : ∀ u ∈ news, u.oneCell' = true) (hb : n + m ≤ 1099511627776) (hB : B ≤ w.heap.size)
    (h : ∀ v' w', w'.ownsRow B e sz v' (n + m) (cs ++ news) → Below B w w' → w.grownBy w' v.ownBlock → (v'.ownBlock = v.ownBlock ∨ v'.ownBlock = some w.heap.size) → K (a.put o.dst v') w') : if Region.wanted o (yielded ops a.tmps) = true then Oper.wp P o a w K Q else F := by
  obtain ⟨v', w', r1, r2, r3, r4, r5⟩ := oc_append (P := P) (ty := o.type) ht hi hz h0 hby hown hl hc h1 hb hB
  exact step_append_run hgd ho r1 hs hx (h v' w' r2 r3 r4 r5)
end
end Go.Proofs.Ytchhbcmkhbfpoaa
