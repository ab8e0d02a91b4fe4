/- Package limit: Both, Fits. -/
import Derived.Test.YtgcgidoikpbfpaaKBK
import Derived.Lib.QuietBelow
import Derived.Test.YtgcgidoikpbfpaaKAB
namespace Go.Proofs.Ytgcgidoikpbfpaa
open Go.RowKit Go.Sort

theorem sizeLimits : (Try.prog.info? 27).map (fun i => i.size) = some 3 := by kernel_rfl
set_option maxRecDepth 100000 in
theorem limit_Both (d k s d' k' s' : Int) (w : World) : Calls Try.prog 10 #[vL d k s, vL d' k' s'] w fun e w' => e = .returned (vL (min d d') (min k k') (min s s')) ∧ Below w.heap.size w w' := by
  unfold vL
  obtain ⟨w3, hw3, b1, b2, b3, S, hz⟩ := alloc3 w 27 27 27 #[.int .i64 d, .int .i64 k, .int .i64 s] #[.int .i64 d', .int .i64 k', .int .i64 s'] #[.int .i64 (min d d'), .int .i64 (min k k'), .int .i64 (min s s')]
  have H3 := Lib.hid b3
  have HS := Lib.hid S
  have HW := Lib.hid hw3
  clear hw3 b1 b2 b3 S hz
  go_enter Try.func10, Try.ntmps10
  go_wp2_with fail
  rw [HW.out]
  refine bodyPost_ret (results_blk rfl _ rfl H3.out Try.underlying27 rfl sizeLimits) rfl ?_
  exact ⟨rfl, HS.out⟩

set_option maxRecDepth 100000 in
set_option maxHeartbeats 4000000 in
theorem limit_Fits (x : It) (A : Option Addr) (cap n : Nat) (d k s : Int) (w : World) (hx : okI 1048576 x) (hb : x.bulk ≤ 1099511627776) (hn : n ≤ w.heap.size) (h : AtB w n x A cap) :
    Calls Try.prog 8 #[vI x A cap, vL d k s] w fun e w' => e = .returned (.int .i64 (fitsR x d k s)) ∧ Below w.heap.size w w' := by
  obtain ⟨w2, hw2, b1, b2, S⟩ : ∃ w2, (w.alloc (.cells #[.int .i64 x.k, .int .u64 x.n, .string x.s, .slice A x.l.length cap] 25)).alloc (.cells #[.int .i64 d, .int .i64 k, .int .i64 s] 27) = w2 ∧ Blk w2 w.heap.size 25 #[.int .i64 x.k, .int .u64 x.n, .string x.s, .slice A x.l.length cap] ∧ Blk w2 (w.heap.size + 1) 27 #[.int .i64 d, .int .i64 k, .int .i64 s] ∧ Below w.heap.size w w2 :=
    ⟨_, rfl, (Blk.fresh w _ _).alloc _, by have := Blk.fresh (w.alloc (.cells #[.int .i64 x.k, .int .u64 x.n, .string x.s, .slice A x.l.length cap] 25)) 27 #[.int .i64 d, .int .i64 k, .int .i64 s]; rwa [World.size_alloc] at this, (below_alloc w _).alloc (by simp) _⟩
  have hCK := fun (W : World) (hW : Below w.heap.size w W) => item_CheckW x A cap n W hx (Nat.le_trans hn hW.size) (h.keep (hW.mono hn))
  have hSZ := fun (W : World) (hW : Below w.heap.size w W) => enc_Size x A cap n W hx hb (Nat.le_trans hn hW.size) (h.keep (hW.mono hn))
  have hcount : x.count ≤ 1099511627775 := Nat.le_trans hx.1 (by decide)
  have hDP := fun (W : World) (hW : Below w.heap.size w W) => item_Depth x A cap n W hcount (Nat.le_trans hn hW.size) (h.keep (hW.mono hn))
  have hLG := fun (hz : checkR wrongI x = 0) (W : World) (hW : Below w.heap.size w W) => limit_longest x.count x A cap n W (Nat.le_refl _) hx hz hb (Nat.le_trans hn hW.size) (h.keep (hW.mono hn))
  have hLC := fun (W : World) => limit_Check d k s W
  have hcell : ∀ W, Below w2.heap.size w2 W → (W.cell? ⟨w.heap.size, 0, none⟩ = some (.int .i64 x.k) ∧ W.cell? ⟨w.heap.size, 1, none⟩ = some (.int .u64 x.n) ∧ W.cell? ⟨w.heap.size, 2, none⟩ = some (.string x.s) ∧ W.cell? ⟨w.heap.size, 3, none⟩ = some (.slice A x.l.length cap)) ∧ W.cell? ⟨w.heap.size + 1, 0, none⟩ = some (.int .i64 d) ∧ W.cell? ⟨w.heap.size + 1, 1, none⟩ = some (.int .i64 k) ∧ W.cell? ⟨w.heap.size + 1, 2, none⟩ = some (.int .i64 s) := fun W hb => by
    obtain ⟨r0, r1, r2, r3, -⟩ := iblk (b1.on hb)
    exact ⟨⟨r0, r1, r2, r3⟩, lblk (b2.on hb)⟩
  obtain ⟨⟨p0, p1, p2, p3⟩, q0, q1, q2⟩ := hcell w2 (Below.refl _ _)
  have hup : ∀ W, Below w2.heap.size w2 W → Below w.heap.size w W := fun W hW => S.trans (hW.mono S.size)
  unfold fitsR
  unfold sizeR at hSZ
  unfold rightR at hLC
  obtain ⟨e1, he1⟩ : ∃ e : Int, (x.enc.length : Int) = e := ⟨_, rfl⟩
  obtain ⟨e2, he2⟩ : ∃ e : Int, (x.depth : Int) = e := ⟨_, rfl⟩
  obtain ⟨e3, he3⟩ : ∃ e : Int, (x.lkey : Int) = e := ⟨_, rfl⟩
  obtain ⟨r, hr⟩ : ∃ r, checkR wrongI x = r := ⟨_, rfl⟩
  obtain ⟨g, hg⟩ : ∃ g, rightL d k s = g := ⟨_, rfl⟩
  rw [he1, he2, he3, hr, hg]
  rw [hr, he1] at hSZ
  rw [he2] at hDP
  rw [he3, hr] at hLG
  rw [hr] at hCK
  rw [hg] at hLC
  simp only [vI, vL] at hCK hSZ hDP hLG hLC ⊢
  have HCK := Lib.hid hCK
  have HSZ := Lib.hid hSZ
  have HDP := Lib.hid hDP
  have HLG := Lib.hid hLG
  have HLC := Lib.hid hLC
  have HCELL := Lib.hid hcell
  have HUP := Lib.hid hup
  clear hCK hSZ hDP hLG hLC hcell hup he1 he2 he3 hr hg hcount hx hb hn h b1 b2
  cases g with
  | false =>
    go_enter Try.func8, Try.ntmps8
    go_wp2_with (go_at_call 9; refine (HLC.out _).mono ?_; rintro e w3 ⟨rfl, hb3⟩; have HB3 := Lib.hid hb3; clear hb3)
    go_ret
    exact ⟨rfl, HUP.out _ HB3.out⟩
  | true =>
  by_cases hr : r = 0
  · subst hr
    have HL := Lib.hid (HLG.out rfl)
    replace HSZ : RowKit.Hid (∀ W, Below w.heap.size w W → Calls Try.prog 16 #[.agg #[.int .i64 x.k, .int .u64 x.n, .string x.s, .slice A x.l.length cap]] W fun e w' => e = .returned (.int .i64 e1) ∧ Below W.heap.size W w') := Lib.hid (fun W hW => by have := HSZ.out W hW; rw [if_pos rfl] at this; exact this)
    go_enter Try.func8, Try.ntmps8
    go_wp2_with (first
      | (go_at_call 9; refine (HLC.out _).mono ?_; rintro e w3 ⟨rfl, hb3⟩; obtain ⟨⟨a0, a1, a2, a3⟩, -⟩ := HCELL.out w3 hb3; have HB3 := Lib.hid hb3; clear hb3)
      | (go_at_call 13; refine (HCK.out _ (HUP.out _ HB3.out)).mono ?_; rintro e w4 ⟨rfl, hb4⟩; have HB4 := Lib.hid (HB3.out.trans (hb4.mono HB3.out.size)); clear hb4))
    clear a0 a1 a2 a3 p0 p1 p2 p3 q0 q1 q2
    by_cases h1 : s < e1
    · obtain ⟨⟨b0, b1, b2, b3⟩, b4, b5, b6⟩ := HCELL.out w4 HB4.out
      have ke0 := cell_regrown b0
      have ke1 := cell_regrown b1
      have ke2 := cell_regrown b2
      have ke3 := cell_regrown b3
      have ke4 := cell_regrown b6
      have K1 := Lib.hid (fun dq os => Calls.regrown_of (HSZ.out (grow (redrawn w4 dq) os) (HUP.out _ (HB4.out.trans ((below_regrown w4 dq os).mono HB4.out.size)))))
      refine wp_region_quiet_below (by kernel_rfl) (by kernel_rfl) ?_
      repeat (quiet_step (exact K1.out _ _))
      refine wpQuiet_nil ?_
      intro _ hw'
      obtain ⟨⟨dq, osq⟩, hw''⟩ := hw'
      subst hw''
      clear ke0 ke1 ke2 ke3 ke4 K1 b0 b1 b2 b3 b4 b5 b6
      have HB5 := Lib.hid (HB4.out.trans ((below_regrown w4 dq osq).mono HB4.out.size))
      generalize grow (redrawn w4 dq) osq = w5 at *
      go_wp2_with fail
      go_ret
      exact ⟨rfl, HUP.out _ HB5.out⟩
    · obtain ⟨⟨b0, b1, b2, b3⟩, b4, b5, b6⟩ := HCELL.out w4 HB4.out
      have ke0 := cell_regrown b0
      have ke1 := cell_regrown b1
      have ke2 := cell_regrown b2
      have ke3 := cell_regrown b3
      have ke4 := cell_regrown b6
      have K1 := Lib.hid (fun dq os => Calls.regrown_of (HSZ.out (grow (redrawn w4 dq) os) (HUP.out _ (HB4.out.trans ((below_regrown w4 dq os).mono HB4.out.size)))))
      refine wp_region_quiet_below (by kernel_rfl) (by kernel_rfl) ?_
      repeat (quiet_step (exact K1.out _ _))
      refine wpQuiet_nil ?_
      intro _ hw'
      obtain ⟨⟨dq, osq⟩, hw''⟩ := hw'
      subst hw''
      clear ke0 ke1 ke2 ke3 ke4 K1 b0 b1 b2 b3 b4 b5 b6
      have HB5 := Lib.hid (HB4.out.trans ((below_regrown w4 dq osq).mono HB4.out.size))
      generalize grow (redrawn w4 dq) osq = w5 at *
      go_wp2_with fail
      by_cases h2 : d < e2
      · obtain ⟨⟨c0, c1, c2, c3⟩, c4, c5, c6⟩ := HCELL.out w5 HB5.out
        have ke0 := cell_regrown c0
        have ke1 := cell_regrown c1
        have ke2 := cell_regrown c2
        have ke3 := cell_regrown c3
        have ke4 := cell_regrown c4
        have K1 := Lib.hid (fun dq os => Calls.regrown_of (HDP.out (grow (redrawn w5 dq) os) (HUP.out _ (HB5.out.trans ((below_regrown w5 dq os).mono HB5.out.size)))))
        refine wp_region_quiet_below (by kernel_rfl) (by kernel_rfl) ?_
        repeat (quiet_step (exact K1.out _ _))
        refine wpQuiet_nil ?_
        intro _ hw'
        obtain ⟨⟨dq, osq⟩, hw''⟩ := hw'
        subst hw''
        clear ke0 ke1 ke2 ke3 ke4 K1 c0 c1 c2 c3 c4 c5 c6
        have HB6 := Lib.hid (HB5.out.trans ((below_regrown w5 dq osq).mono HB5.out.size))
        generalize grow (redrawn w5 dq) osq = w6 at *
        go_wp2_with fail
        go_ret
        exact ⟨rfl, HUP.out _ HB6.out⟩
      · obtain ⟨⟨c0, c1, c2, c3⟩, c4, c5, c6⟩ := HCELL.out w5 HB5.out
        have ke0 := cell_regrown c0
        have ke1 := cell_regrown c1
        have ke2 := cell_regrown c2
        have ke3 := cell_regrown c3
        have ke4 := cell_regrown c4
        have K1 := Lib.hid (fun dq os => Calls.regrown_of (HDP.out (grow (redrawn w5 dq) os) (HUP.out _ (HB5.out.trans ((below_regrown w5 dq os).mono HB5.out.size)))))
        refine wp_region_quiet_below (by kernel_rfl) (by kernel_rfl) ?_
        repeat (quiet_step (exact K1.out _ _))
        refine wpQuiet_nil ?_
        intro _ hw'
        obtain ⟨⟨dq, osq⟩, hw''⟩ := hw'
        subst hw''
        clear ke0 ke1 ke2 ke3 ke4 K1 c0 c1 c2 c3 c4 c5 c6
        have HB6 := Lib.hid (HB5.out.trans ((below_regrown w5 dq osq).mono HB5.out.size))
        generalize grow (redrawn w5 dq) osq = w6 at *
        go_wp2_with fail
        by_cases h3 : k < e3
        · obtain ⟨⟨d0, d1, d2, d3⟩, d4, d5, d6⟩ := HCELL.out w6 HB6.out
          have ke0 := cell_regrown d0
          have ke1 := cell_regrown d1
          have ke2 := cell_regrown d2
          have ke3 := cell_regrown d3
          have ke4 := cell_regrown d5
          have K1 := Lib.hid (fun dq os => Calls.regrown_of (HL.out (grow (redrawn w6 dq) os) (HUP.out _ (HB6.out.trans ((below_regrown w6 dq os).mono HB6.out.size)))))
          refine wp_region_quiet_below (by kernel_rfl) (by kernel_rfl) ?_
          repeat (quiet_step (exact K1.out _ _))
          refine wpQuiet_nil ?_
          intro _ hw'
          obtain ⟨⟨dq, osq⟩, hw''⟩ := hw'
          subst hw''
          clear ke0 ke1 ke2 ke3 ke4 K1 d0 d1 d2 d3 d4 d5 d6
          have HB7 := Lib.hid (HB6.out.trans ((below_regrown w6 dq osq).mono HB6.out.size))
          generalize grow (redrawn w6 dq) osq = w7 at *
          go_wp2_with fail
          go_ret
          exact ⟨rfl, HUP.out _ HB7.out⟩
        · obtain ⟨⟨d0, d1, d2, d3⟩, d4, d5, d6⟩ := HCELL.out w6 HB6.out
          have ke0 := cell_regrown d0
          have ke1 := cell_regrown d1
          have ke2 := cell_regrown d2
          have ke3 := cell_regrown d3
          have ke4 := cell_regrown d5
          have K1 := Lib.hid (fun dq os => Calls.regrown_of (HL.out (grow (redrawn w6 dq) os) (HUP.out _ (HB6.out.trans ((below_regrown w6 dq os).mono HB6.out.size)))))
          refine wp_region_quiet_below (by kernel_rfl) (by kernel_rfl) ?_
          repeat (quiet_step (exact K1.out _ _))
          refine wpQuiet_nil ?_
          intro _ hw'
          obtain ⟨⟨dq, osq⟩, hw''⟩ := hw'
          subst hw''
          clear ke0 ke1 ke2 ke3 ke4 K1 d0 d1 d2 d3 d4 d5 d6
          have HB7 := Lib.hid (HB6.out.trans ((below_regrown w6 dq osq).mono HB6.out.size))
          generalize grow (redrawn w6 dq) osq = w7 at *
          go_wp2_with fail
          go_ret
          exact ⟨rfl, HUP.out _ HB7.out⟩
  · go_enter Try.func8, Try.ntmps8
    go_wp2_with (first
      | (go_at_call 9; refine (HLC.out _).mono ?_; rintro e w3 ⟨rfl, hb3⟩; obtain ⟨⟨a0, a1, a2, a3⟩, -⟩ := HCELL.out w3 hb3; have HB3 := Lib.hid hb3; clear hb3)
      | (go_at_call 13; refine (HCK.out _ (HUP.out _ HB3.out)).mono ?_; rintro e w4 ⟨rfl, hb4⟩; have HB4 := Lib.hid (HB3.out.trans (hb4.mono HB3.out.size)); clear hb4))
    go_ret
    exact ⟨rfl, HUP.out _ HB4.out⟩
end Go.Proofs.Ytgcgidoikpbfpaa

/- Results of several kinds. -/
namespace Go.Proofs.Ytgcgidoikpbfpaa
open Go.RowKit

theorem results_tmp3 {fn : Func} {t u v : Tmp} (h : fn.results = #[.tmp t, .tmp u, .tmp v]) (tmps : Array Value) (P : Program) (w : World) :
    (results fn tmps).run P w = .ok (.tuple #[tmps.getD t undef, tmps.getD u undef, tmps.getD v undef]) w := by
  simp [results, h]
theorem results_tmp6 {fn : Func} {t u v x y z : Tmp} (h : fn.results = #[.tmp t, .tmp u, .tmp v, .tmp x, .tmp y, .tmp z]) (tmps : Array Value) (P : Program) (w : World) :
    (results fn tmps).run P w = .ok (.tuple #[tmps.getD t undef, tmps.getD u undef, tmps.getD v undef, tmps.getD x undef, tmps.getD y undef, tmps.getD z undef]) w := by
  simp [results, h]
/-- A struct in memory ahead of two numbers. -/
theorem results_blk3 {P : Program} {fn : Func} {p a b : Tmp} {ty : TypeId} (h : fn.results = #[.cell p ty, .tmp a, .tmp b]) (tmps : Array Value) {w : World} {g : Nat} {t : TypeId} {cs : Array Value} {d : TypeDesc} (hp : tmps.getD p undef = .pointer (some ⟨g, 0, none⟩))
    (hg : Blk w g t cs) (hu : P.underlying ty = some d) (hd : d.isRow = true) (hi : (P.info? ty).map (·.size) = some cs.size) :
    (results fn tmps).run P w = .ok (.tuple #[.agg cs, tmps.getD a undef, tmps.getD b undef]) w := by
  have hp' : tmps[p]?.getD undef = .pointer (some ⟨g, 0, none⟩) := by simpa using hp
  have hl := run_loadVar_row w g t ty cs (0, 0) d hg hu (by cases d <;> simp_all [TypeDesc.isRow]) hi
  simp [results, h, hp', asAddr, hl]
/-- A struct in memory ahead of one. -/
theorem results_blk2 {P : Program} {fn : Func} {p a : Tmp} {ty : TypeId} (h : fn.results = #[.cell p ty, .tmp a]) (tmps : Array Value) {w : World} {g : Nat} {t : TypeId} {cs : Array Value} {d : TypeDesc} (hp : tmps.getD p undef = .pointer (some ⟨g, 0, none⟩))
    (hg : Blk w g t cs) (hu : P.underlying ty = some d) (hd : d.isRow = true) (hi : (P.info? ty).map (·.size) = some cs.size) :
    (results fn tmps).run P w = .ok (.tuple #[.agg cs, tmps.getD a undef]) w := by
  have hp' : tmps[p]?.getD undef = .pointer (some ⟨g, 0, none⟩) := by simpa using hp
  have hl := run_loadVar_row w g t ty cs (0, 0) d hg hu (by cases d <;> simp_all [TypeDesc.isRow]) hi
  simp [results, h, hp', asAddr, hl]
end Go.Proofs.Ytgcgidoikpbfpaa
