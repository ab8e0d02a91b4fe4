/- Results of several kinds. -/
import Derived.Test.YtgcgidoikpbfpaaGreatKAB
import Derived.Test.YtgcgidoikpbfpaaGreatKBJ
import Derived.Test.YtgcgidoikpbfpaaGreatKBB
import Derived.Test.YtgcgidoikpbfpaaGreatKBD
namespace Go.Proofs.YtgcgidoikpbfpaaGreat
open Go.RowKit

theorem results_tmp3 {fn : Func} {t u v : Tmp} (h : fn.results = #[.tmp t, .tmp u, .tmp v]) (tmps : Array Value) (P : Program) (w : World) :
    (results fn tmps).run P w = .ok (.tuple #[tmps.getD t undef, tmps.getD u undef, tmps.getD v undef]) w := by
  simp [results, h]
theorem results_tmp6 {fn : Func} {t u v x y z : Tmp} (h : fn.results = #[.tmp t, .tmp u, .tmp v, .tmp x, .tmp y, .tmp z]) (tmps : Array Value) (P : Program) (w : World) :
    (results fn tmps).run P w = .ok (.tuple #[tmps.getD t undef, tmps.getD u undef, tmps.getD v undef, tmps.getD x undef, tmps.getD y undef, tmps.getD z undef]) w := by
  simp [results, h]
/-- A struct in memory ahead of two numbers. -/
theorem results_blk3 {P : Program} {fn : Func} {p a b : Tmp} {ty : TypeId} (h : fn.results = #[.cell p ty, .tmp a, .tmp b]) (tmps : Array Value) {w : World} {g : Nat} {t : TypeId} {cs : Array Value} {d : TypeDesc} (hp : tmps.getD p undef = .pointer (some ⟨g, 0, none⟩))
    (hg : Blk w g t cs) (hu : P.underlying ty = some d) (hd : d.isRow = true) (hi : (P.info? ty).map (·.size) = some cs.size) :
    (results fn tmps).run P w = .ok (.tuple #[.agg cs, tmps.getD a undef, tmps.getD b undef]) w := by
  have hp' : tmps[p]?.getD undef = .pointer (some ⟨g, 0, none⟩) := by simpa using hp
  have hl := run_loadVar_row w g t ty cs (0, 0) d hg hu (by cases d <;> simp_all [TypeDesc.isRow]) hi
  simp [results, h, hp', asAddr, hl]
/-- A struct in memory ahead of one. -/
theorem results_blk2 {P : Program} {fn : Func} {p a : Tmp} {ty : TypeId} (h : fn.results = #[.cell p ty, .tmp a]) (tmps : Array Value) {w : World} {g : Nat} {t : TypeId} {cs : Array Value} {d : TypeDesc} (hp : tmps.getD p undef = .pointer (some ⟨g, 0, none⟩))
    (hg : Blk w g t cs) (hu : P.underlying ty = some d) (hd : d.isRow = true) (hi : (P.info? ty).map (·.size) = some cs.size) :
    (results fn tmps).run P w = .ok (.tuple #[.agg cs, tmps.getD a undef]) w := by
  have hp' : tmps[p]?.getD undef = .pointer (some ⟨g, 0, none⟩) := by simpa using hp
  have hl := run_loadVar_row w g t ty cs (0, 0) d hg hu (by cases d <;> simp_all [TypeDesc.isRow]) hi
  simp [results, h, hp', asAddr, hl]
end Go.Proofs.YtgcgidoikpbfpaaGreat

/- Package limit: Needed. -/
namespace Go.Proofs.YtgcgidoikpbfpaaGreat
open Go.RowKit Go.Sort

theorem fresh_on {w W' : World} {t : TypeId} {cs : Array Value} {g0 : Nat} (h0 : g0 ≤ w.heap.size) (hb : Below (w.alloc (.cells cs t)).heap.size (w.alloc (.cells cs t)) W') : Blk W' w.heap.size t cs ∧ g0 ≤ w.heap.size := ⟨(Blk.fresh w t cs).on hb, h0⟩
theorem fresh_onD {w W' : World} {t : TypeId} {cs : Array Value} {g0 : Nat} (h0 : g0 ≤ w.heap.size) (hb : Below (w.alloc (.cells cs t)).drew.heap.size (w.alloc (.cells cs t)).drew W') : Blk W' w.heap.size t cs ∧ g0 ≤ w.heap.size := ⟨((Blk.fresh w t cs).on (below_drawn (Below.refl _ _))).on hb, h0⟩
theorem stored3 {w2 W : World} {g : Nat} {t : TypeId} {a b c : Value} (u v x : Value) (hk : Blk W g t #[a, b, c] ∧ w2.heap.size ≤ g) (hb : Below w2.heap.size w2 W) :
    ∃ WE, ((W.setCell ⟨g, 0, none⟩ u).setCell ⟨g, 1, none⟩ v).setCell ⟨g, 2, none⟩ x = WE ∧ Blk WE g t #[u, v, x] ∧ Below w2.heap.size w2 WE := by
  have ho : Only g W (((W.setCell ⟨g, 0, none⟩ u).setCell ⟨g, 1, none⟩ v).setCell ⟨g, 2, none⟩ x) := (((Only.refl _ _).put 0 _).put 1 _).put 2 _
  exact ⟨_, rfl, ((hk.1.put 0 u).put 1 v).put 2 x, hb.trans (ho.below hk.2 hb.size)⟩
theorem stored0 {w2 W : World} {t : TypeId} (u v x : Value) (hb : Below w2.heap.size w2 W) : ∃ WE, W.alloc (.cells #[u, v, x] t) = WE ∧ Blk WE W.heap.size t #[u, v, x] ∧ Below w2.heap.size w2 WE := ⟨_, rfl, Blk.fresh W t _, hb.alloc hb.size _⟩
theorem far3 {W : World} {g0 g : Nat} {a b c d : Value} (h : g0 < g) (u v x : Value) (hc : W.cell? ⟨g0, 0, none⟩ = some a ∧ W.cell? ⟨g0, 1, none⟩ = some b ∧ W.cell? ⟨g0, 2, none⟩ = some c ∧ W.cell? ⟨g0, 3, none⟩ = some d) :
    (((W.setCell ⟨g, 0, none⟩ u).setCell ⟨g, 1, none⟩ v).setCell ⟨g, 2, none⟩ x).cell? ⟨g0, 0, none⟩ = some a ∧ (((W.setCell ⟨g, 0, none⟩ u).setCell ⟨g, 1, none⟩ v).setCell ⟨g, 2, none⟩ x).cell? ⟨g0, 1, none⟩ = some b ∧ (((W.setCell ⟨g, 0, none⟩ u).setCell ⟨g, 1, none⟩ v).setCell ⟨g, 2, none⟩ x).cell? ⟨g0, 2, none⟩ = some c ∧ (((W.setCell ⟨g, 0, none⟩ u).setCell ⟨g, 1, none⟩ v).setCell ⟨g, 2, none⟩ x).cell? ⟨g0, 3, none⟩ = some d := by
  have ho : Only g W (((W.setCell ⟨g, 0, none⟩ u).setCell ⟨g, 1, none⟩ v).setCell ⟨g, 2, none⟩ x) := (((Only.refl _ _).put 0 _).put 1 _).put 2 _
  have hk : ∀ i y, W.cell? ⟨g0, i, none⟩ = some y → (((W.setCell ⟨g, 0, none⟩ u).setCell ⟨g, 1, none⟩ v).setCell ⟨g, 2, none⟩ x).cell? ⟨g0, i, none⟩ = some y := fun i y hy => cell_kept' (ho.block g0 (block_lt_of_cell hy) (fun e => by cases e; exact absurd h (Nat.lt_irrefl _))) hy
  exact ⟨hk _ _ hc.1, hk _ _ hc.2.1, hk _ _ hc.2.2.1, hk _ _ hc.2.2.2⟩
/-- What Needed tells. -/
def needR (g : Bool) (d k s : Int) : Value := if g = true then .tuple #[vL d k s, .bool true] else .tuple #[vL 0 0 0, .bool false]
noncomputable def needB (x : It) : Bool := decide (checkR wrongI x = 0) && rightL x.depth (max (x.lkey : Int) 1) x.enc.length
set_option maxRecDepth 100000 in
set_option maxHeartbeats 4000000 in
theorem limit_Needed (x : It) (A : Option Addr) (cap n : Nat) (w : World) (hx : okI 1048576 x) (hb : x.bulk ≤ 1099511627776) (hn : n ≤ w.heap.size) (h : AtB w n x A cap) :
    Calls Tryz.prog 13 #[vI x A cap] w fun e w' => e = .returned (needR (needB x) x.depth (max (x.lkey : Int) 1) x.enc.length) ∧ Below w.heap.size w w' := by
  obtain ⟨w2, hw2, b1, b2, S⟩ : ∃ w2, (w.alloc (.cells #[.int .i64 x.k, .int .u64 x.n, .string x.s, .slice A x.l.length cap] 25)).alloc (.cells #[.int .i64 0, .int .i64 0, .int .i64 0] 27) = w2 ∧ Blk w2 w.heap.size 25 #[.int .i64 x.k, .int .u64 x.n, .string x.s, .slice A x.l.length cap] ∧ Blk w2 (w.heap.size + 1) 27 #[.int .i64 0, .int .i64 0, .int .i64 0] ∧ Below w.heap.size w w2 :=
    ⟨_, rfl, (Blk.fresh w _ _).alloc _, by have := Blk.fresh (w.alloc (.cells #[.int .i64 x.k, .int .u64 x.n, .string x.s, .slice A x.l.length cap] 25)) 27 #[.int .i64 0, .int .i64 0, .int .i64 0]; rwa [World.size_alloc] at this, (below_alloc w _).alloc (by simp) _⟩
  have hsz2 : w2.heap.size = w.heap.size + 2 := by rw [← hw2]; simp
  have hCK := fun (W : World) (hW : Below w.heap.size w W) => item_CheckW x A cap n W hx (Nat.le_trans hn hW.size) (h.keep (hW.mono hn))
  have hSZ := fun (W : World) (hW : Below w.heap.size w W) => enc_Size x A cap n W hx hb (Nat.le_trans hn hW.size) (h.keep (hW.mono hn))
  have hcount : x.count ≤ 1099511627775 := Nat.le_trans hx.1 (by decide)
  have hDP := fun (W : World) (hW : Below w.heap.size w W) => item_Depth x A cap n W hcount (Nat.le_trans hn hW.size) (h.keep (hW.mono hn))
  have hLG := fun (hz : checkR wrongI x = 0) (W : World) (hW : Below w.heap.size w W) => limit_longest x.count x A cap n W (Nat.le_refl _) hx hz hb (Nat.le_trans hn hW.size) (h.keep (hW.mono hn))
  have hcell : ∀ W, Below w2.heap.size w2 W → (W.cell? ⟨w.heap.size, 0, none⟩ = some (.int .i64 x.k) ∧ W.cell? ⟨w.heap.size, 1, none⟩ = some (.int .u64 x.n) ∧ W.cell? ⟨w.heap.size, 2, none⟩ = some (.string x.s) ∧ W.cell? ⟨w.heap.size, 3, none⟩ = some (.slice A x.l.length cap)) := fun W hb => by
    obtain ⟨r0, r1, r2, r3, -⟩ := iblk (b1.on hb)
    exact ⟨r0, r1, r2, r3⟩
  obtain ⟨p0, p1, p2, p3⟩ := hcell w2 (Below.refl _ _)
  have hup : ∀ W, Below w2.heap.size w2 W → Below w.heap.size w W := fun W hW => S.trans (hW.mono S.size)
  unfold needB needR
  unfold sizeR at hSZ
  obtain ⟨e1, he1⟩ : ∃ e : Int, (x.enc.length : Int) = e := ⟨_, rfl⟩
  obtain ⟨e2, he2⟩ : ∃ e : Int, (x.depth : Int) = e := ⟨_, rfl⟩
  obtain ⟨e3, he3⟩ : ∃ e : Int, (x.lkey : Int) = e := ⟨_, rfl⟩
  obtain ⟨r, hr⟩ : ∃ r, checkR wrongI x = r := ⟨_, rfl⟩
  rw [he1, he2, he3, hr]
  rw [hr, he1] at hSZ
  rw [he2] at hDP
  rw [he3, hr] at hLG
  rw [hr] at hCK
  have hLC := fun (W : World) => limit_Check e2 (max e3 1) e1 W
  unfold rightR at hLC
  obtain ⟨g, hg⟩ : ∃ g, rightL e2 (max e3 1) e1 = g := ⟨_, rfl⟩
  rw [hg] at hLC ⊢
  simp only [vI, vL] at hCK hSZ hDP hLG hLC ⊢
  have HCK := Lib.hid hCK
  have HSZ := Lib.hid hSZ
  have HDP := Lib.hid hDP
  have HLG := Lib.hid hLG
  have HLC := Lib.hid hLC
  have HCELL := Lib.hid hcell
  have HUP := Lib.hid hup
  have HB2 := Lib.hid b2
  have HS := Lib.hid S
  have HZ2 := Lib.hid hsz2
  clear hCK hSZ hDP hLG hLC hcell hup he1 he2 he3 hr hg hcount hx hb hn h b1 b2 S hsz2
  have hne0 : (some ⟨w.heap.size + 1, 0, none⟩ : Option Addr) = some ⟨w.heap.size + 1, 0, none⟩ := rfl
  by_cases hr : r = 0
  · subst hr
    have HL := Lib.hid (HLG.out rfl)
    replace HSZ : RowKit.Hid (∀ W, Below w.heap.size w W → Calls Tryz.prog 22 #[.agg #[.int .i64 x.k, .int .u64 x.n, .string x.s, .slice A x.l.length cap]] W fun e w' => e = .returned (.int .i64 e1) ∧ Below W.heap.size W w') := Lib.hid (fun W hW => by have := HSZ.out W hW; rw [if_pos rfl] at this; exact this)
    rw [decide_eq_true rfl, Bool.true_and]
    clear HLG hne0
    go_enter Tryz.func13, Tryz.ntmps13
    go_wp2_with (first
      | (go_at_call 20; refine (HCK.out _ (HUP.out _ (Below.refl _ _))).mono ?_; rintro e w3 ⟨rfl, hb3⟩; have HB3 := Lib.hid hb3; clear hb3))
    clear p0 p1 p2 p3 hw2
    have up : ∀ {W W' : World}, Below w2.heap.size w2 W → Below W.heap.size W W' → Below w2.heap.size w2 W' := fun h1 h2 => h1.trans (h2.mono h1.size)
    have G1 := Lib.hid (fun W (hW : Below w2.heap.size w2 W) => (HDP.out W (HUP.out W hW)).mono fun e w' h => (⟨h.1, h.2, up hW h.2⟩ : e = .returned (.int .i64 e2) ∧ Below W.heap.size W w' ∧ Below w2.heap.size w2 w'))
    have G2 := Lib.hid (fun W (hW : Below w2.heap.size w2 W) => (HL.out W (HUP.out W hW)).mono fun e w' h => (⟨h.1, h.2, up hW h.2⟩ : e = .returned (.int .i64 e3) ∧ Below W.heap.size W w' ∧ Below w2.heap.size w2 w'))
    have G3 := Lib.hid (fun W (hW : Below w2.heap.size w2 W) => (HSZ.out W (HUP.out W hW)).mono fun e w' h => (⟨h.1, h.2, up hW h.2⟩ : e = .returned (.int .i64 e1) ∧ Below W.heap.size W w' ∧ Below w2.heap.size w2 w'))
    clear HDP HL HSZ up HCK
    have cS := HCELL.out w3.drew (below_drawn HB3.out)
    have HBW := Lib.hid (below_drawn HB3.out)
    have HBA := Lib.hid (below_drawn (HB3.out.alloc (by have := HB3.out.size; omega) (.cells #[.int .i64 0, .int .i64 0, .int .i64 0] 27)))
    have cA := HCELL.out _ HBA.out
    go_region_held3 (fun W => (W.cell? ⟨w.heap.size, 0, none⟩ = some (.int .i64 x.k) ∧ W.cell? ⟨w.heap.size, 1, none⟩ = some (.int .u64 x.n) ∧ W.cell? ⟨w.heap.size, 2, none⟩ = some (.string x.s) ∧ W.cell? ⟨w.heap.size, 3, none⟩ = some (.slice A x.l.length cap))) (first | go_keep | exact cS | exact cA | exact far3 (by have := HK.out.2; have := HZ2.out; omega) _ _ _ cS) ((first
      | (go_at_call 23; refine Calls.mono (G1.out _ ?hB) ?_; (case hB => (first | exact HBW.out | exact HBW.out.alloc (by have := HBW.out.size; omega) _ | exact HBA.out)); rintro e7 w7 ⟨rfl, hb7, hb7'⟩; have HBO := HBW; have HBW := Lib.hid hb7'; have cS := HCELL.out w7 hb7'; (first | (have HK := Lib.hid (fresh_on (g0 := w2.heap.size) (by have := HBO.out.size; omega) hb7); obtain ⟨k0, k1, k2⟩ := lblk HK.out.1; have f0 := HK.out.1.free 0; have f1 := HK.out.1.free 1; have f2 := HK.out.1.free 2) | (have HK := Lib.hid (fresh_onD (g0 := w2.heap.size) (by have := HB3.out.size; omega) hb7); obtain ⟨k0, k1, k2⟩ := lblk HK.out.1; have f0 := HK.out.1.free 0; have f1 := HK.out.1.free 1; have f2 := HK.out.1.free 2) | (have HK := Lib.hid (And.intro (HK.out.1.on hb7) HK.out.2); obtain ⟨k0, k1, k2⟩ := lblk HK.out.1; have f0 := HK.out.1.free 0; have f1 := HK.out.1.free 1; have f2 := HK.out.1.free 2) | skip); clear hb7 hb7')
      | (go_at_call 21; refine Calls.mono (G2.out _ ?hB) ?_; (case hB => (first | exact HBW.out | exact HBW.out.alloc (by have := HBW.out.size; omega) _ | exact HBA.out)); rintro e7 w7 ⟨rfl, hb7, hb7'⟩; have HBO := HBW; have HBW := Lib.hid hb7'; have cS := HCELL.out w7 hb7'; (first | (have HK := Lib.hid (fresh_on (g0 := w2.heap.size) (by have := HBO.out.size; omega) hb7); obtain ⟨k0, k1, k2⟩ := lblk HK.out.1; have f0 := HK.out.1.free 0; have f1 := HK.out.1.free 1; have f2 := HK.out.1.free 2) | (have HK := Lib.hid (fresh_onD (g0 := w2.heap.size) (by have := HB3.out.size; omega) hb7); obtain ⟨k0, k1, k2⟩ := lblk HK.out.1; have f0 := HK.out.1.free 0; have f1 := HK.out.1.free 1; have f2 := HK.out.1.free 2) | (have HK := Lib.hid (And.intro (HK.out.1.on hb7) HK.out.2); obtain ⟨k0, k1, k2⟩ := lblk HK.out.1; have f0 := HK.out.1.free 0; have f1 := HK.out.1.free 1; have f2 := HK.out.1.free 2) | skip); clear hb7 hb7')
      | (go_at_call 22; refine Calls.mono (G3.out _ ?hB) ?_; (case hB => (first | exact HBW.out | exact HBW.out.alloc (by have := HBW.out.size; omega) _ | exact HBA.out)); rintro e7 w7 ⟨rfl, hb7, hb7'⟩; have HBO := HBW; have HBW := Lib.hid hb7'; have cS := HCELL.out w7 hb7'; (first | (have HK := Lib.hid (fresh_on (g0 := w2.heap.size) (by have := HBO.out.size; omega) hb7); obtain ⟨k0, k1, k2⟩ := lblk HK.out.1; have f0 := HK.out.1.free 0; have f1 := HK.out.1.free 1; have f2 := HK.out.1.free 2) | (have HK := Lib.hid (fresh_onD (g0 := w2.heap.size) (by have := HB3.out.size; omega) hb7); obtain ⟨k0, k1, k2⟩ := lblk HK.out.1; have f0 := HK.out.1.free 0; have f1 := HK.out.1.free 1; have f2 := HK.out.1.free 2) | (have HK := Lib.hid (And.intro (HK.out.1.on hb7) HK.out.2); obtain ⟨k0, k1, k2⟩ := lblk HK.out.1; have f0 := HK.out.1.free 0; have f1 := HK.out.1.free 1; have f2 := HK.out.1.free 2) | skip); clear hb7 hb7')))
    all_goals
      first
      | (obtain ⟨WE, hWE, hBE, hLE⟩ := stored3 (.int .i64 e2) (.int .i64 (max e3 1)) (.int .i64 e1) HK.out HBW.out; rw [hWE])
      | (obtain ⟨WE, hWE, hBE, hLE⟩ := stored0 (t := 27) (.int .i64 e2) (.int .i64 (max e3 1)) (.int .i64 e1) HBW.out; rw [hWE])
      have HBE := Lib.hid hBE
      have HLE := Lib.hid hLE
      obtain ⟨m0, m1, m2⟩ := lblk hBE
      clear hWE hBE hLE cS cA G1 G2 G3 HCELL
      (try clear HK)
      (try clear k0 k1 k2 f0 f1 f2)
      cases g with
      | true =>
        go_wp2_with (go_at_call 8; refine (HLC.out _).mono ?_; rintro e w9 ⟨rfl, hb9⟩; have HL9 := Lib.hid (HLE.out.trans (hb9.mono HLE.out.size)); have HK9 := Lib.hid (HBE.out.on hb9); have HR9 := Lib.hid (HB2.out.on HL9.out); obtain ⟨n0, n1, n2⟩ := lblk HK9.out; obtain ⟨r0, r1, r2⟩ := lblk HR9.out; have q0 := HR9.out.free 0; have q1 := HR9.out.free 1; have q2 := HR9.out.free 2; clear hb9)
        refine bodyPost_ret (results_blk2 rfl _ rfl (((HR9.out.put 0 _).put 1 _).put 2 _) Tryz.underlying27 rfl sizeLimits) rfl ?_
        exact ⟨rfl, HS.out.trans ((HL9.out.mono HS.out.size).trans ((((Only.refl _ _).put 0 _).put 1 _).put 2 _ |>.below (by omega) (by have := HL9.out.size; have := HS.out.size; omega)))⟩
      | false =>
        go_wp2_with (go_at_call 8; refine (HLC.out _).mono ?_; rintro e w9 ⟨rfl, hb9⟩; have HL9 := Lib.hid (HLE.out.trans (hb9.mono HLE.out.size)); have HK9 := Lib.hid (HBE.out.on hb9); have HR9 := Lib.hid (HB2.out.on HL9.out); obtain ⟨n0, n1, n2⟩ := lblk HK9.out; obtain ⟨r0, r1, r2⟩ := lblk HR9.out; have q0 := HR9.out.free 0; have q1 := HR9.out.free 1; have q2 := HR9.out.free 2; clear hb9)
        refine bodyPost_ret (results_blk2 rfl _ rfl (((HR9.out.put 0 _).put 1 _).put 2 _) Tryz.underlying27 rfl sizeLimits) rfl ?_
        exact ⟨rfl, HS.out.trans ((HL9.out.mono HS.out.size).trans ((((Only.refl _ _).put 0 _).put 1 _).put 2 _ |>.below (by omega) (by have := HL9.out.size; have := HS.out.size; omega)))⟩
  · rw [decide_eq_false hr, Bool.false_and]
    obtain ⟨r0, r1, r2⟩ := lblk HB2.out
    clear hne0 HLG
    go_enter Tryz.func13, Tryz.ntmps13
    go_wp2_with (go_at_call 20; refine (HCK.out _ (HUP.out _ (Below.refl _ _))).mono ?_; rintro e w3 ⟨rfl, hb3⟩; have HB3 := Lib.hid hb3; have HR9 := Lib.hid (HB2.out.on hb3); obtain ⟨n0, n1, n2⟩ := lblk HR9.out; have q0 := HR9.out.free 0; have q1 := HR9.out.free 1; have q2 := HR9.out.free 2; clear hb3)
    refine bodyPost_ret (results_blk2 rfl _ rfl (((HR9.out.put 0 _).put 1 _).put 2 _) Tryz.underlying27 rfl sizeLimits) rfl ?_
    exact ⟨rfl, HS.out.trans ((HB3.out.mono HS.out.size).trans ((((Only.refl _ _).put 0 _).put 1 _).put 2 _ |>.below (by omega) (by have := HB3.out.size; have := HS.out.size; omega)))⟩
end Go.Proofs.YtgcgidoikpbfpaaGreat

/- Package limit: the document's example; limits among the arguments. -/
namespace Go.Proofs.YtgcgidoikpbfpaaGreat
open Go.RowKit Go.Sort Go.ChangeShapes Go.WideShapes Go.ChangeAt

theorem okI_mono {N N' : Nat} {t : It} (h : okI N t) (hN : N ≤ N') : okI N' t := ⟨Nat.le_trans h.1 hN, fun d p hp => ⟨(h.2 d p hp).1, (h.2 d p hp).2.1, Nat.le_trans (h.2 d p hp).2.2 hN⟩⟩
def exF : It := .mk 0 24 ⟨#[]⟩ []
theorem exF_items (d : Nat) : exF.items d = [(d, exF)] := by simp [exF, It.items, itemsL]
theorem exF_count : exF.count = 1 := by simp [exF, It.count, countL]
theorem exF_depth : exF.depth = 1 := by
  unfold It.depth
  rw [exF_items]
  rfl
theorem exF_wrong : wrongI exF = 0 := wrongI_ok (by
  show formK 0 false (ByteArray.toList ⟨#[]⟩).isEmpty 0 = true
  rw [noText_empty]
  rfl) rfl (by decide) (fun h => absurd h (by decide))
theorem exF_check : checkR wrongI exF = 0 := by
  unfold checkR
  rw [exF_depth, exF_items, if_neg (by omega)]
  simp only [List.map_cons, List.map_nil, exF_wrong]
  rfl
theorem exF_ok : okI 1048576 exF := by
  refine ⟨by rw [exF_count]; omega, fun d p hp => ?_⟩
  rw [exF_items, List.mem_singleton] at hp
  subst hp
  refine ⟨?_, ?_, ?_⟩ <;> (dsimp only [exF, It.n, It.s]; decide)
theorem exF_okE : exF.okE := check_ok (N := 1048576) (by omega) exF_ok exF_check
theorem exF_len : exF.enc.length = 2 := rfl
theorem exF_key : exF.lkey = 0 := by rw [It.lkey_eq]; rfl
theorem exF_need : needR (needB exF) exF.depth (max (exF.lkey : Int) 1) exF.enc.length = .tuple #[vL 1 1 2, .bool true] := by
  have h : needB exF = true := by
    unfold needB
    rw [exF_check, exF_depth, exF_key, exF_len]
    rfl
  rw [h, exF_depth, exF_key, exF_len]
  rfl
theorem encLen_pos {x : It} (h : x.okE) : 1 ≤ x.enc.length := by
  by_cases e : x.enc.length = 0
  · have h1 := (enc_pre x exF exF.enc [] h exF_okE (by rw [List.length_eq_zero_iff.1 e]; simp)).2
    have h2 := exF_len
    rw [h1] at h2
    cases h2
  · omega

set_option maxRecDepth 100000 in
theorem lim_awake (w : World) : Calls Tryz.prog 4 #[] w fun e w' => e = .returned (.bool true) ∧ Below w.heap.size w w' := by
  have C := limit_Needed exF none 0 w.heap.size w exF_ok (by simp [exF, It.bulk, bulkL]; decide) (Nat.le_refl _) ⟨by simp [exF, It.l], fun _ => rfl, AtL.nil _⟩
  rw [exF_need] at C
  simp only [vI, vL, exF, It.k, It.n, It.s, It.l, List.length_nil] at C
  have HC := Lib.hid C
  clear C
  go_enter Tryz.func4, Tryz.ntmps4
  go_wp2_with (go_at_call 13; refine HC.out.mono ?_; rintro e w2 ⟨rfl, hb⟩; have HB := Lib.hid hb; clear hb)
  go_ret
  exact ⟨rfl, HB.out.alloc HB.out.size _⟩
section
variable {H : Type} {enc : TypeId × Value → H} {W : World}
set_option maxRecDepth 100000 in
/-- Limits among the arguments. -/
theorem open_limits {b0 : Nat} {v : Value} {d : DataW H} {ps : List MemPlace} (hval : Value.okWide Tryz.prog W .any b0 27 v) (hd : DataW.Trod enc Tryz.prog W 0 (fun _ => true) true 27 v d ps) :
    ∃ a b c, v = vL a b c := by
  obtain ⟨cs, rfl, _⟩ := okWide_struct Tryz.underlying27 hval
  obtain ⟨fuel, h⟩ := hd
  obtain ⟨xs, m, rfl, _, hl, hlen, hf⟩ := DataW.trod_struct Tryz.underlying27 h
  have hC : Tryz.prog.cellsOf 27 = 3 := by kernel_rfl
  rw [hC] at hl
  obtain ⟨c0, c1, c2, hc⟩ : ∃ c0 c1 c2, (Value.agg cs).cells.toList = [c0, c1, c2] := by
    match (Value.agg cs).cells.toList, hl with
    | [c0, c1, c2], _ => exact ⟨c0, c1, c2, rfl⟩
  obtain ⟨y0, y1, y2, rfl⟩ : ∃ y0 y1 y2, xs = [y0, y1, y2] := by
    match xs, hlen with
    | [y0, y1, y2], _ => exact ⟨y0, y1, y2, rfl⟩
  have g0 := hf 0 _ rfl
  have g1 := hf 1 _ rfl
  have g2 := hf 2 _ rfl
  have k0 : Tryz.prog.cellsOf 3 = 1 := by kernel_rfl
  rw [hc] at g0 g1 g2
  simp [k0] at g0 g1 g2
  obtain ⟨a, e0, _, _⟩ := DataW.trod_int Tryz.underlying3 g0
  obtain ⟨b, e1, _, _⟩ := DataW.trod_int Tryz.underlying3 g1
  obtain ⟨c, e2, _, _⟩ := DataW.trod_int Tryz.underlying3 g2
  injection e0 with e0
  injection e1 with e1
  injection e2 with e2
  subst e0 e1 e2
  refine ⟨a, b, c, ?_⟩
  unfold vL
  congr 1
  apply Array.ext'
  simpa [Value.cells] using hc
end
end Go.Proofs.YtgcgidoikpbfpaaGreat
