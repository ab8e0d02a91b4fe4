/- Package auto: Close, New, Whole. -/
import Derived.Test.YtmclmfhimdppjaaKBK
namespace Go.Proofs.Ytmclmfhimdppjaa
open Go.RowKit

/-- A verdict's cells. -/
def vcells (v : Int × Int) : Array Value := #[.int .i64 v.1, .int .i64 v.2]
theorem vd_zero : ∀ w, (zeroValue 51).run Try.prog w = .ok (.agg (vcells (0, 0))) w := (zero_of_info (n := 2) (by kernel_rfl)).1
theorem vd_info : (Try.prog.info? 51).map (·.size) = some 2 := by kernel_rfl
theorem vd_one (e p : Int) : (#[Value.int IntKind.i64 e, Value.int IntKind.i64 p] : Array Value).all (·.oneCell') = true := by
  rw [Array.all_eq_true_iff_forall_mem]
  intro x hx
  simp at hx
  rcases hx with rfl | rfl <;> rfl
def closeV (x : AC) : Int × Int := if x.wrong ≠ 0 then (x.wrong, x.handed - 1) else if x.done then (0, 0) else (9, x.handed)
set_option maxRecDepth 4000 in
theorem auto_Close (w : World) (a : Nat) (x : AC) (h : Blk w a 64 x.cells) (h0 : 0 ≤ x.handed) (h1 : x.handed < 4611686018427387905) :
    Calls Try.prog 15 #[.pointer (some ⟨a, 0, none⟩)] w fun e w' => e = .returned (.agg (vcells (closeV x))) ∧ Below w.heap.size w w' := by
  have hne : a ≠ w.heap.size := by have := h.lt; omega
  have S := below_alloc w (.cells #[.int .i64 0, .int .i64 0] 51)
  obtain ⟨_, _, _, _, _, c15, c16, c17, _⟩ := au_cells (h.on S)
  have b : Blk (w.alloc (.cells #[.int .i64 0, .int .i64 0] 51)) w.heap.size 51 #[.int .i64 0, .int .i64 0] := Blk.fresh _ _ _
  have HZ := vd_zero
  unfold vcells at HZ ⊢
  dsimp only at HZ ⊢
  have HS := Lib.hid S
  obtain ⟨w1, hw1⟩ : ∃ w1, w.alloc (.cells #[.int .i64 0, .int .i64 0] 51) = w1 := ⟨_, rfl⟩
  rw [hw1] at c15 c16 c17 b HS
  obtain ⟨D, K, SS, s, q, tx, u, hd, dn, wr⟩ := x
  dsimp only at c15 c16 c17 h0 h1
  by_cases hw : wr = 0
  · subst hw
    cases dn with
    | true =>
      have e : closeV ⟨D, K, SS, s, q, tx, u, hd, true, 0⟩ = (0, 0) := rfl
      rw [e]
      have b2 := b.setRow #[.int .i64 0, .int .i64 0]
      have HS2 := Lib.hid (below_row HS.out (Nat.le_refl _) #[.int .i64 0, .int .i64 0])
      have HSt := Lib.hid (run_store_all (P := Try.prog) (ty := 51) (c' := #[.int .i64 0, .int .i64 0]) b vd_info rfl (vd_one _ _))
      have HB2 := Lib.hid b2
      clear h S b b2 e
      go_enter Try.func15, Try.ntmps15
      go_wp2_with ((with_reducible refine is_store 51 rfl ?_); (with_reducible refine wpList_store_run rfl rfl HSt.out ?_ ?_ ?_); (· rfl); (· rfl))
      refine bodyPost_ret (results_blk rfl _ rfl HB2.out Try.underlying51 rfl vd_info) rfl ?_
      exact ⟨rfl, HS2.out⟩
    | false =>
      have e : closeV ⟨D, K, SS, s, q, tx, u, hd, false, 0⟩ = (9, hd) := rfl
      rw [e]
      have b2 := b.setRow #[.int .i64 9, .int .i64 hd]
      have HS2 := Lib.hid (below_row HS.out (Nat.le_refl _) #[.int .i64 9, .int .i64 hd])
      have HSt := Lib.hid (run_store_all (P := Try.prog) (ty := 51) (c' := #[.int .i64 9, .int .i64 hd]) b vd_info rfl (vd_one _ _))
      have HB2 := Lib.hid b2
      clear h S b b2 e
      go_enter Try.func15, Try.ntmps15
      go_wp2_with ((with_reducible refine is_store 51 rfl ?_); (with_reducible refine wpList_store_run rfl rfl HSt.out ?_ ?_ ?_); (· rfl); (· rfl))
      refine bodyPost_ret (results_blk rfl _ rfl HB2.out Try.underlying51 rfl vd_info) rfl ?_
      exact ⟨rfl, HS2.out⟩
  · have e : closeV ⟨D, K, SS, s, q, tx, u, hd, dn, wr⟩ = (wr, hd - 1) := if_pos hw
    rw [e]
    have HX : Hid (∀ q, (Instr.storeAt 51 (.pointer (some ⟨w.heap.size, 0, none⟩)) (.agg #[.int .i64 wr, .int .i64 (hd - 1)])).run Try.prog (w1.drewN q) = .ok () ((w1.drewN q).setRow w.heap.size #[.int .i64 wr, .int .i64 (hd - 1)]) ∧ Blk ((w1.drewN q).setRow w.heap.size #[.int .i64 wr, .int .i64 (hd - 1)]) w.heap.size 51 #[.int .i64 wr, .int .i64 (hd - 1)] ∧ Below w.heap.size w ((w1.drewN q).setRow w.heap.size #[.int .i64 wr, .int .i64 (hd - 1)])) := fun q => by
      have b' : Blk (w1.drewN q) w.heap.size 51 #[.int .i64 0, .int .i64 0] := b.drewN q
      exact ⟨run_store_all b' vd_info rfl (vd_one _ _), b'.setRow _, below_row (below_drawnN HS.out q) (Nat.le_refl _) _⟩
    have q1 : IntKind.i64.wrap (hd - 1) = hd - 1 := by rw [IntWalk.i64_in _ (by omega)]
    clear h S b e
    go_enter Try.func15, Try.ntmps15
    go_wp2_with fail
    refine wp_region_quiet_tail 10 (by kernel_rfl) (by kernel_rfl) ?_
    simp only [List.take_succ_cons, List.take_zero, List.drop_succ_cons, List.drop_zero]
    repeat (quiet_step (fail))
    refine wpQuiet_nil ?_
    rintro _ ⟨q0, rfl⟩
    obtain ⟨r1, r2, r3⟩ := HX.out q0
    have H1 := Lib.hid r1
    have H2 := Lib.hid r2
    have H3 := Lib.hid r3
    clear r1 r2 r3 HX
    go_wp2_with ((with_reducible refine is_store 51 rfl ?_); (with_reducible refine wpList_store_run rfl rfl H1.out ?_ ?_ ?_); (· rfl); (· rfl))
    refine bodyPost_ret (results_blk rfl _ rfl H2.out Try.underlying51 rfl vd_info) rfl ?_
    exact ⟨rfl, H3.out⟩

def ac0 (D K : Nat) (S : Int) (s : Nat) : AC := ⟨D, K, S, s, hq0, 0, uq0, 0, false, 0⟩
theorem am_zero (D K : Nat) (S : Int) (s : Nat) : AM aq0 (ac0 D K S s) := ⟨⟨rfl, rfl, .inl rfl⟩, .zero, hok_zero, Nat.zero_le _, rfl⟩
theorem au_zero : ∀ w, (zeroValue 64).run Try.prog w = .ok (.agg #[.int .i64 0, .int .i64 0, .int .i64 0, .pointer none, .int .i64 0, .int .i64 0, .int .u64 0, .int .i64 0, .bool false, .int .i64 0, .int .u64 0, .int .i64 0, .int .u8 0, .int .u8 0, .bool false, .int .i64 0, .bool false, .int .i64 0]) w := (zero_of_info (n := 18) (by kernel_rfl)).1
/-- A new automaton. -/
def NewP (D K : Nat) (S : Int) (w : World) (e : Ending) (w' : World) : Prop :=
  ∃ own a s f, e = .returned (.tuple #[.pointer (some ⟨a, 0, none⟩), .int .i64 0]) ∧ Aut w' own a f D K [] (ac0 D K S s) ∧ w.heap.size ≤ a ∧ (∀ j, own j ≠ 0 → w.heap.size ≤ j) ∧ Below w.heap.size w w'
set_option maxRecDepth 100000 in
set_option maxHeartbeats 4000000 in
theorem auto_New (w : World) (D K : Nat) (S : Int) (h1 : 1 ≤ D) (h2 : D ≤ 64) (k1 : 1 ≤ K) (k2 : K ≤ 1024) (s1 : 1 ≤ S) (s2 : S ≤ 2305843009213693951) :
    Calls Try.prog 6 #[vL D K S] w fun e w' => NewP D K S w e w' := by
  obtain ⟨w1, hw1, b1, S1⟩ := iblk1 w 24 #[.int .i64 D, .int .i64 K, .int .i64 S]
  obtain ⟨p0, p1, p2⟩ := lblk b1
  have hr : rightR D K S = 0 := by unfold rightR; rw [if_pos (rightL_true.2 ⟨by omega, by omega, by omega, by omega, s1, s2⟩)]
  have HC := Lib.hid (limit_Check D K S w1)
  rw [hr] at HC
  have HN := Lib.hid (fun v => frame_New v D K h1 h2 k1 k2)
  have HX : Hid (∀ w2 w5 own s f, Below w1.heap.size w1 w2 → StkR w5 own s f D K [] → (∀ j, own j ≠ 0 → w2.heap.size ≤ j ∧ j < w5.heap.size) → Below w2.heap.size w2 w5 →
      (w5.cell? ⟨w.heap.size, 0, none⟩ = some (.int .i64 D) ∧ w5.cell? ⟨w.heap.size, 1, none⟩ = some (.int .i64 K) ∧ w5.cell? ⟨w.heap.size, 2, none⟩ = some (.int .i64 S)) ∧
      NewP D K S w (.returned (.tuple #[.pointer (some ⟨w5.heap.size, 0, none⟩), .int .i64 0])) (w5.alloc (.cells #[.int .i64 D, .int .i64 K, .int .i64 S, .pointer (some ⟨s, 0, none⟩), .int .i64 0, .int .i64 0, .int .u64 0, .int .i64 0, .bool false, .int .i64 0, .int .u64 0, .int .i64 0, .int .u8 0, .int .u8 0, .bool false, .int .i64 0, .bool false, .int .i64 0] 64))) := fun w2 w5 own s f hb hs hl hb5 => by
    have h15 : Below w1.heap.size w1 w5 := hb.trans (hb5.mono hb.size)
    obtain ⟨c0, c1, c2⟩ := lblk (b1.on h15)
    have hw5 : Below w.heap.size w w5 := S1.trans (h15.mono S1.size)
    have hsz := hb.size
    have hsz1 := S1.size
    have hsz5 := hw5.size
    have hA := below_alloc w5 (.cells #[.int .i64 D, .int .i64 K, .int .i64 S, .pointer (some ⟨s, 0, none⟩), .int .i64 0, .int .i64 0, .int .u64 0, .int .i64 0, .bool false, .int .i64 0, .int .u64 0, .int .i64 0, .int .u8 0, .int .u8 0, .bool false, .int .i64 0, .bool false, .int .i64 0] 64)
    refine ⟨⟨c0, c1, c2⟩, own, w5.heap.size, s, f, rfl, ⟨Blk.fresh _ _ _, hs.on hA, ?_, rfl, rfl, fun j hj => Nat.lt_of_lt_of_le (hl j hj).2 hA.size⟩, hsz5, fun j hj => by have := (hl j hj).1; omega, hw5.trans (hA.mono hsz5)⟩
    apply Classical.byContradiction
    intro hn
    have := (hl _ hn).2
    omega
  have HZ := au_zero
  have hfol : Try.prog.follows Departure.mixedOrders = true := by kernel_rfl
  have HB1 := Lib.hid b1
  have HDw : Hid (∀ v : World, Below v.heap.size v v.drew) := fun v => below_drawn (Below.refl _ _)
  unfold vL
  clear S1 hr b1 h1 h2 k1 k2 s1 s2
  generalize NewP D K S w = Pz at *
  go_enter Try.func6, Try.ntmps6
  go_wp2_with fail
  refine HC.out.mono ?_
  rintro e w2 ⟨rfl, hb2⟩
  have HB2 := Lib.hid hb2
  obtain ⟨p0, p1, p2⟩ := lblk (HB1.out.on hb2)
  clear hb2 HC
  go_wp2_with fail
  go_region_with (go_at_call 18; refine (HN.out _).mono ?_; rintro e w5 ⟨own, s, f, rfl, hs, hl, hb⟩; obtain ⟨⟨u0, u1, u2⟩, u3⟩ := HX.out w2.drew w5 own s f (HB2.out.trans ((HDw.out w2).mono HB2.out.size)) hs hl hb; have HY := Lib.hid u3; clear hs hl hb u3)
  all_goals
    go_wp2_with fail
    refine bodyPost_ret (results_tmp2 rfl _ _ _) rfl ?_
    exact HY.out
theorem auto_New_bad (w : World) (d k s : Int) (h : rightL d k s = false) :
    Calls Try.prog 6 #[vL d k s] w fun e w' => e = .returned (.tuple #[.pointer none, .int .i64 15]) ∧ Below w.heap.size w w' := by
  obtain ⟨w1, hw1, b1, S1⟩ := iblk1 w 24 #[.int .i64 d, .int .i64 k, .int .i64 s]
  obtain ⟨p0, p1, p2⟩ := lblk b1
  have HC := Lib.hid (limit_Check d k s w1)
  rw [show rightR d k s = 15 by unfold rightR; rw [if_neg (by rw [h]; decide)]] at HC
  have HS := Lib.hid S1
  unfold vL at HC ⊢
  clear S1 b1 h
  go_enter Try.func6, Try.ntmps6
  go_wp2_with fail
  refine HC.out.mono ?_
  rintro e w2 ⟨rfl, hb2⟩
  have HB2 := Lib.hid (HS.out.trans (hb2.mono HS.out.size))
  clear hb2 HC
  go_wp2_with fail
  refine bodyPost_ret (results_tmp2 rfl _ _ _) rfl ?_
  exact ⟨rfl, HB2.out⟩
end Go.Proofs.Ytmclmfhimdppjaa

/- Package auto: Whole. -/
namespace Go.Proofs.Ytmclmfhimdppjaa
open Go.RowKit

/-- The verdict of bytes. -/
noncomputable def wv (D K : Nat) (S : Int) (L : List Int) : Int × Int := ((svrd D K S.toNat 0 aq0 L).1, ((svrd D K S.toNat 0 aq0 L).2 : Int))
section
variable {D K : Nat} {S : Int} {i : Nat} {s : AQ} {c : Int} {r : List Int}
theorem svrd_err (hS : 0 ≤ S) (h : stepK S i (fstep D K i s c) ≠ 0) : svrd D K S.toNat i s (c :: r) = (stepK S i (fstep D K i s c), i) := by
  rw [svrd_cons]
  unfold stepK at h ⊢
  by_cases hs : S ≤ i
  · rw [if_pos (by omega), if_pos hs]
  · rw [if_neg (by omega), if_neg hs]
    rw [if_neg hs] at h
    cases hn : (fstep D K i s c).notes with
    | nil => rw [hn] at h; exact absurd rfl h
    | cons m t => rfl
theorem svrd_ok {s' : AQ} (hS : 0 ≤ S) (h : stepK S i (fstep D K i s c) = 0) (hn : (fstep D K i s c).next = some s') : svrd D K S.toNat i s (c :: r) = svrd D K S.toNat (i + 1) s' r := by
  obtain ⟨h1, h2⟩ := stepK_ok h
  rw [svrd_cons, if_neg (by omega), h2, hn]
end
theorem aok_next {D K i : Nat} {s s' : AQ} {c S : Int} (h : AOk D K s) (h0 : 0 ≤ c) (h1 : c < 256) (hk : stepK S i (fstep D K i s c) = 0) (hn : (fstep D K i s c).next = some s') : AOk D K s' := by
  obtain ⟨s2, h2, h3⟩ := h.step (i := i) h0 h1 (stepK_ok hk).2
  rw [hn] at h2
  injection h2 with h2
  subst h2
  exact h3
set_option maxRecDepth 100000 in
set_option maxHeartbeats 1000000 in
theorem auto_Whole (w : World) (A : Option Addr) (cap : Nat) (L : List Int) (D K : Nat) (S : Int) (hr : Rd w w.heap.size .u8 A L) (hb : ByteL L) (hlen : L.length ≤ 1000000000) (h1 : 1 ≤ D) (h2 : D ≤ 64) (k1 : 1 ≤ K) (k2 : K ≤ 1024) (s1 : 1 ≤ S) (s2 : S ≤ 2305843009213693951) :
    Calls Try.prog 16 #[.slice A L.length cap, vL D K S] w fun e w' => e = .returned (.agg (vcells (wv D K S L))) ∧ Below w.heap.size w w' := by
  obtain ⟨w1, hw1, b1, S1⟩ := iblk1 w 24 #[.int .i64 D, .int .i64 K, .int .i64 S]
  have hsz1 : w1.heap.size = w.heap.size + 1 := by rw [← hw1]; simp
  obtain ⟨w2, hw2, b2, S2⟩ := iblk1 w1 51 #[.int .i64 0, .int .i64 0]
  rw [hsz1] at b2
  have b1' := b1.on S2
  obtain ⟨p0, p1, p2⟩ := lblk b1'
  have S12 : Below w.heap.size w w2 := S1.trans (S2.mono S1.size)
  have hsz2 : w2.heap.size = w.heap.size + 2 := by rw [← hw2]; simp [hsz1]
  have HN := Lib.hid (auto_New w2 D K S h1 h2 k1 k2 s1 s2)
  have HZ := vd_zero
  -- what comes behind New
  have HX : Hid (∀ w3 own a s f, Aut w3 own a f D K [] (ac0 D K S s) → w2.heap.size ≤ a → (∀ j, own j ≠ 0 → w2.heap.size ≤ j) → Below w2.heap.size w2 w3 →
      (∀ j, SA own a j → w.heap.size + 2 ≤ j) ∧ Blk w3 (w.heap.size + 1) 51 #[.int .i64 0, .int .i64 0] ∧ Below w.heap.size w w3 ∧ w.heap.size + 2 ≤ w3.heap.size ∧ Rd w3 w.heap.size .u8 A L) := fun w3 own a s f hA ha ho hb3 => by
    have hbw : Below w.heap.size w w3 := S12.trans (hb3.mono (by omega))
    refine ⟨fun j hj => ?_, b2.on hb3, hbw, by have := hb3.size; omega, hr.below hbw⟩
    rcases hj with rfl | hj
    · omega
    · have := ho j hj; omega
  have HLen : Hid ((L.length : Int) ≤ 1000000000) := by show _ ≤ _; omega
  have HBL := Lib.hid hb
  have HS0 : Hid (0 ≤ S) := by show _ ≤ _; omega
  clear S1 S2 S12 b1 b2 b1' hr hb hsz2 hlen h1 h2 k1 k2 s1 s2
  unfold vL at HN ⊢
  unfold vcells at HZ ⊢
  dsimp only at HZ ⊢
  generalize hN : (L.length : Int) = N at *
  have HN2 := Lib.hid hN
  go_enter Try.func16, Try.ntmps16
  go_wp2_with fail
  refine HN.out.mono ?_
  rintro e w3 ⟨own, a, s, f, rfl, hA, ha, ho, hb3⟩
  obtain ⟨hSA, bV, hb, hsz, hrd⟩ := HX.out w3 own a s f hA ha ho hb3
  have HSA := Lib.hid hSA
  have HBV := Lib.hid bV
  have HB := Lib.hid hb
  have HSZ := Lib.hid hsz
  have HRD := Lib.hid hrd
  have HA := Lib.hid hA
  have HRES : Hid (∀ w' e p, Below w.heap.size w w' → Blk w' (w.heap.size + 1) 51 #[.int .i64 0, .int .i64 0] → (Instr.storeAt 51 (.pointer (some ⟨w.heap.size + 1, 0, none⟩)) (.agg #[.int .i64 e, .int .i64 p])).run Try.prog w' = .ok () (w'.setRow (w.heap.size + 1) #[.int .i64 e, .int .i64 p]) ∧ Blk (w'.setRow (w.heap.size + 1) #[.int .i64 e, .int .i64 p]) (w.heap.size + 1) 51 #[.int .i64 e, .int .i64 p] ∧ Below w.heap.size w (w'.setRow (w.heap.size + 1) #[.int .i64 e, .int .i64 p])) := fun w' e p hb' bV' =>
    ⟨run_store_all bV' vd_info rfl (vd_one _ _), bV'.setRow _, below_row hb' (by omega) _⟩
  -- behind the loop: a verdict
  have HCL : Hid (∀ wr, Wi (SA own a) w3 wr → Below w.heap.size w wr ∧ Blk wr (w.heap.size + 1) 51 #[.int .i64 0, .int .i64 0] ∧ Rd wr w.heap.size .u8 A L ∧ w.heap.size + 2 ≤ wr.heap.size) := fun wr hw => by
    have hb2 : Below (w.heap.size + 2) w3 wr := hw.below HSA.out HSZ.out
    exact ⟨HB.out.trans (hb2.mono (by omega)), HBV.out.below hb2 (by omega), HRD.out.below (hb2.mono (by omega)), by have := hw.size; have := HSZ.out; omega⟩
  clear hSA bV hb hsz hrd hA ha ho hb3 HX HN HZ
  go_wp2_with fail
  go_loopw [20] (fun i wr => ∃ (k : Nat) (sq : AQ) (x : AC), (k : Int) ≤ N ∧ i = .int .i64 k ∧ Aut wr own a f D K sq.st x ∧ AM sq x ∧ AOk D K sq ∧ x.handed = k ∧ x.S = S ∧ svrd D K S.toNat 0 aq0 L = svrd D K S.toNat k sq (L.drop k) ∧ Wi (SA own a) w3 wr) (fun i _ => L.length - (intOf i).toNat)
  case atStart => exact ⟨0, aq0, _, by have := HN2.out; omega, rfl, HA.out, am_zero D K S s, AOk.zero D K, rfl, rfl, rfl, Wi.refl⟩
  case round =>
    obtain ⟨k, sq, x, hk, rfl, hAu, hM, hO, hh, hS, hv, hW⟩ := hrel
    obtain ⟨cB, cV, cR, cZ⟩ := HCL.out wr hW
    by_cases hlt : (k : Int) < N
    · have hltn : k < L.length := by have := HN2.out; omega
      obtain ⟨b, o, rfl, hbb, hcell⟩ := cR.get hltn
      have hc := HBL.out (L.getD k 0) (by rw [List.getD_eq_getElem?_getD, List.getElem?_eq_getElem hltn]; exact List.getElem_mem hltn)
      have hdr : L.drop k = L.getD k 0 :: L.drop (k + 1) := by
        rw [List.drop_eq_getElem_cons hltn]
        simp [List.getD_eq_getElem?_getD, hltn]
      generalize L.getD k 0 = c at *
      rw [hdr] at hv
      have hk0 : (0 : Int) ≤ k := by omega
      have hkm : (k : Int) < 4611686018427387904 := by have := HLen.out; omega
      by_cases hst : stepK x.S k (fstep D K k sq c) = 0
      · have HT : Hid (Calls Try.prog 11 #[.pointer (some ⟨a, 0, none⟩), .int .u8 c, .nilFunc] wr fun e w' => e = .returned (.int .i64 0) ∧ (∃ sq' x', Aut w' own a f D K sq'.st x' ∧ AM sq' x' ∧ AOk D K sq' ∧ x'.handed = ((k + 1 : Nat) : Int) ∧ x'.S = S ∧ svrd D K S.toNat 0 aq0 L = svrd D K S.toNat (k + 1) sq' (L.drop (k + 1))) ∧ Wi (SA own a) w3 w') := by
          refine (auto_Step0 wr own a f D K k sq x c hAu hO hM hc.1 hc.2 hh hkm hst).mono ?_
          rintro e w' ⟨⟨rfl, s', x', hn, hA', hM', hh', hS'⟩, hw⟩
          refine ⟨rfl, ⟨s', x', hA', hM', aok_next hO hc.1 hc.2 hst hn, by rw [hh']; omega, hS'.trans hS, ?_⟩, hW.trans hw⟩
          rw [hv]
          exact svrd_ok HS0.out (hS ▸ hst) hn
        have hNL := HN2.out
        clear hAu hM hO hh hS hv hW cB cV cR cZ hdr hc hst HA HCL HRES HSA HBV HB HSZ HRD
        go_wp2_with fail
        refine HT.out.mono ?_
        rintro e w5 ⟨rfl, hx, hw5⟩
        have HXX := Lib.hid hx
        have HWW := Lib.hid hw5
        clear hx hw5 HT
        go_wp2_with fail
        go_roundw
        case rel =>
          obtain ⟨sq', x', y1, y2, y3, y4, y5, y6⟩ := HXX.out
          exact ⟨k + 1, sq', x', by omega, by go_num, y1, y2, y3, y4, y5, y6, HWW.out⟩
        case measure => simp [intOf]; omega
      · have HT : Hid (Calls Try.prog 11 #[.pointer (some ⟨a, 0, none⟩), .int .u8 c, .nilFunc] wr fun e w' => ∃ k', e = .returned (.int .i64 k') ∧ k' ≠ 0 ∧ (∃ x' : AC, Blk w' a 64 x'.cells ∧ x'.handed = (k : Int) + 1 ∧ x'.wrong = k' ∧ wv D K S L = (k', (k : Int))) ∧ Wi (SA own a) w3 w') := by
          refine (auto_Step_err wr own a f D K k sq x c .nilFunc hAu hO hM hc.1 hc.2 hh hkm hst).mono ?_
          rintro e w' ⟨⟨rfl, x', hA', hh', hw'⟩, hw⟩
          refine ⟨_, rfl, hst, ⟨x', hA'.blk, hh', hw', ?_⟩, hW.trans hw⟩
          unfold wv
          rw [hv, svrd_err HS0.out (hS ▸ hst), hS]
        have hNL := HN2.out
        have HCL2 := Lib.hid HCL.out
        clear hAu hM hO hh hS hv hW cB cV cR cZ hdr hc hst HA HCL HSA HBV HB HSZ HRD
        go_wp2_with fail
        refine HT.out.mono ?_
        rintro e w5 ⟨k', rfl, hk', ⟨x', hx1, hx2, hx3, hx4⟩, hw5⟩
        obtain ⟨g1, g2, _, _⟩ := HCL2.out w5 hw5
        have HCo : Hid (Calls Try.prog 15 #[.pointer (some ⟨a, 0, none⟩)] w5 fun e w' => e = .returned (.agg #[.int .i64 k', .int .i64 k]) ∧ (Below w.heap.size w w' ∧ Blk w' (w.heap.size + 1) 51 #[.int .i64 0, .int .i64 0])) := by
          refine (auto_Close w5 a x' hx1 (by omega) (by omega)).mono ?_
          rintro e w' ⟨rfl, hb⟩
          refine ⟨?_, g1.trans (hb.mono g1.size), g2.on hb⟩
          unfold closeV
          rw [if_pos (by rw [hx3]; exact hk'), hx3, hx2]
          unfold vcells
          simp
        have HWV := Lib.hid hx4
        clear hx1 hx2 hx3 hx4 hw5 g1 g2 HT HCL2 hkm hk0 hNL hltn hk hlt
        generalize (k : Int) = kI at *
        go_wp2_with fail
        refine HCo.out.mono ?_
        rintro e w6 ⟨rfl, b6, v6⟩
        obtain ⟨r1, r2, r3⟩ := HRES.out w6 k' kI b6 v6
        have H1 := Lib.hid r1
        have H2 := Lib.hid r2
        have H3 := Lib.hid r3
        clear r1 r2 r3 b6 v6 HRES HCo
        go_wp2_with ((with_reducible refine is_store 51 rfl ?_); (with_reducible refine wpList_store_run rfl rfl H1.out ?_ ?_ ?_); (· rfl); (· rfl))
        refine bodyPost_ret (results_blk rfl _ rfl H2.out Try.underlying51 rfl vd_info) rfl ?_
        rw [HWV.out]
        exact ⟨rfl, H3.out⟩
    · have hkl : k = L.length := by have := HN2.out; omega
      have hdr : L.drop k = [] := by rw [hkl, List.drop_length]
      rw [hdr] at hv
      have HCo : Hid (∃ e0 p0 : Int, wv D K S L = (e0, p0) ∧ Calls Try.prog 15 #[.pointer (some ⟨a, 0, none⟩)] wr fun e w' => e = .returned (.agg #[.int .i64 e0, .int .i64 p0]) ∧ (Below w.heap.size w w' ∧ Blk w' (w.heap.size + 1) 51 #[.int .i64 0, .int .i64 0])) := by
        have hcl := auto_Close wr a x hAu.blk (by omega) (by have := HLen.out; omega)
        have hwv : wv D K S L = closeV x := by
          unfold wv closeV
          rw [hv, if_neg (by rw [hM.wrong]; simp)]
          unfold svrd
          have hc := hM.ctl
          obtain ⟨st, ct⟩ := sq
          unfold AQ.isFin
          cases ct with
          | head q => obtain ⟨_, cd, _⟩ := hc; rw [cd]; simp [hh]
          | text n t u => obtain ⟨_, cd, _⟩ := hc; rw [cd]; simp [hh]
          | ended => exact absurd hc (fun h => h)
          | fin => obtain ⟨cd, _⟩ := hc; rw [cd]; simp
        refine ⟨(closeV x).1, (closeV x).2, hwv, hcl.mono ?_⟩
        rintro e w' ⟨rfl, hb⟩
        exact ⟨rfl, cB.trans (hb.mono cB.size), cV.on hb⟩
      obtain ⟨e0, p0, hwv, hcl⟩ := HCo.out
      have HWV := Lib.hid hwv
      have HC2 := Lib.hid hcl
      clear hAu hM hO hh hS hv hW cB cV cR cZ hdr hkl HCo hwv hcl HA HCL HSA HBV HB HSZ HRD
      go_wp2_with fail
      refine HC2.out.mono ?_
      rintro e w6 ⟨rfl, b6, v6⟩
      obtain ⟨r1, r2, r3⟩ := HRES.out w6 e0 p0 b6 v6
      have H1 := Lib.hid r1
      have H2 := Lib.hid r2
      have H3 := Lib.hid r3
      clear r1 r2 r3 b6 v6 HRES HC2
      go_wp2_with ((with_reducible refine is_store 51 rfl ?_); (with_reducible refine wpList_store_run rfl rfl H1.out ?_ ?_ ?_); (· rfl); (· rfl))
      refine bodyPost_ret (results_blk rfl _ rfl H2.out Try.underlying51 rfl vd_info) rfl ?_
      rw [HWV.out]
      exact ⟨rfl, H3.out⟩
end Go.Proofs.Ytmclmfhimdppjaa
