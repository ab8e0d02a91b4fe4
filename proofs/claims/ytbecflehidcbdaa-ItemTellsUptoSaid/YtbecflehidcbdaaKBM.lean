/- The law ItemTells: its walk. -/
import Derived.Test.YtbecflehidcbdaaKBL
namespace Go.Proofs.Ytbecflehidcbdaa.itemTells
open Go.ChangeShapes Go.WideShapes Go.ChangeAt Go.RowKit Go.Sort Go.Shelf
attribute [local go_sem] Oper.semAt_some

/-- The two lists' variables. -/
structure Two (w4 w5 : World) (v1 v2 : Value) : Prop where
  b1 : Blk w5 w4.heap.size 23 #[v1]
  b2 : Blk w5 (w4.heap.size + 1) 28 #[v2]
  low : RowKit.Below w4.heap.size w4 w5
  size : w5.heap.size = w4.heap.size + 2
theorem two_new (w4 : World) (v1 v2 : Value) : Two w4 ((w4.alloc (.cells #[v1] 23)).alloc (.cells #[v2] 28)) v1 v2 :=
  ⟨(Blk.fresh w4 _ _).alloc _, by have := Blk.fresh (w4.alloc (.cells #[v1] 23)) 28 #[v2]; rwa [World.size_alloc] at this, (below_alloc w4 _).alloc (by simp) _, by simp⟩
set_option maxRecDepth 100000 in
theorem run_all_nil (B : Nat) (W : World) : Sem.run Try.prog (binOp .eql 32 (.func (.func 21) #[] #[.pointer (some ⟨B, 0, none⟩)]) .nilFunc) W = .ok (.bool false) W := by
  rfl
set_option maxRecDepth 100000 in
set_option maxHeartbeats 8000000 in
theorem walk (x : It) (few : Int) (A : Option Addr) (c : Nat) (w : World) (hx : okI 1048576 x) (h1 : AtV w x A c) (hf0 : 0 ≤ few) (hf1 : few ≤ 255) :
    Calls Try.prog 3 #[vI x A c, .int .u8 few] w fun e w' => e = .returned (.bool true) ∧ Below w.heap.size w w' := by
  obtain ⟨w1, hw1, b1, b2, b3, S, hz⟩ := alloc3 w 25 5 4 #[.int .i64 x.k, .int .u64 x.n, .string x.s, .slice A x.l.length c] #[.int .u8 few] #[.bool false]
  have hxc := hx.1
  have H1 := h1.toB
  have HA := Lib.hid (fun W => item_awake W)
  have HG := Lib.hid (fun W (hb : Below w.heap.size w W) => ref_Great x A c w.heap.size W (by omega) hb.size (H1.keep hb))
  have HIT := Lib.hid (fun W (hb : Below w.heap.size w W) => ref_Items x.count x A c w.heap.size 1 W (Nat.le_refl _) (by omega) hb.size (H1.keep hb))
  have HAL := Lib.hid (fun W (hb : Below w.heap.size w W) (hg : greatB x = false) => item_All x A c w.heap.size W (by omega) hb.size (H1.keep hb) (deepSum_few (not_great hg)))
  have HD1 := Lib.hid (fun W (hb : Below w.heap.size w W) => item_Depth x A c w.heap.size W (by omega) hb.size (H1.keep hb))
  have HD2 := Lib.hid (fun W (hb : Below w.heap.size w W) => ref_Depth x A c w.heap.size W (by omega) hb.size (H1.keep hb))
  have HSZ := Lib.hid (fun W (hb : Below w.heap.size w W) => item_Size x A c w.heap.size W (by omega) hb.size (H1.keep hb))
  have HC1 := Lib.hid (fun W (hb : Below w.heap.size w W) => item_CheckW x A c w.heap.size W hx hb.size (H1.keep hb))
  have HC2 := Lib.hid (fun W (hb : Below w.heap.size w W) => ref_CheckW x A c w.heap.size W hx hb.size (H1.keep hb))
  have HX := Lib.hid (fun _ : Unit => hx)
  have HS := Lib.hid S
  have HB1 := Lib.hid b1
  have HB2 := Lib.hid b2
  have HB3 := Lib.hid b3
  have HZ := Lib.hid hz
  have carry : ∀ W, Below w1.heap.size w1 W → W.cell? ⟨w.heap.size, 0, none⟩ = some (.int .i64 x.k) ∧ W.cell? ⟨w.heap.size, 1, none⟩ = some (.int .u64 x.n) ∧ W.cell? ⟨w.heap.size, 2, none⟩ = some (.string x.s) ∧ W.cell? ⟨w.heap.size, 3, none⟩ = some (.slice A x.l.length c) := fun W hb => by
    obtain ⟨p0, p1, p2, p3, -⟩ := iblk (b1.on hb)
    exact ⟨p0, p1, p2, p3⟩
  have HCY := Lib.hid carry
  have HUP := Lib.hid (fun W (hb : Below w1.heap.size w1 W) => S.trans (hb.mono S.size))
  obtain ⟨p0, p1, p2, p3, -⟩ := iblk b1
  have hres : w1.frozen? ⟨w.heap.size + 2, 0, none⟩ = false := b3.free 0
  have hres' : w1.cell? ⟨w.heap.size + 2, 0, none⟩ = some (.bool false) := by rw [b3.cell]; rfl
  clear carry b1 b2 b3 S H1 h1 hx hxc hz
  obtain ⟨gr, hgr⟩ : ∃ r, greatB x = r := ⟨_, rfl⟩
  rw [hgr] at HG HAL
  clear hgr
  simp only [vI] at *
  refine (callsIn_wide (n := 0)).1 ?_
  refine callsIn_of_wp_marks Try.func3 rfl trivial ?_ rfl
  simp only [Try.ntmps3, List.size_toArray, List.length_cons, List.length_nil, Nat.reduceAdd, Nat.reduceSub, Array.replicate_succ, Array.replicate_zero, List.push_toArray, List.append_toArray, List.nil_append, List.cons_append]
  cases gr
  · have HAL' := Lib.hid (fun W hb => HAL.out W hb rfl)
    gi_wp2_with (first
      | (refine ⟨trivial, rfl, ?_⟩; gi_at_call 5; refine (callsIn_wide.2 (HA.out w1)).mono ?_; rintro e w2 ⟨rfl, hb2⟩; obtain ⟨a0, a1, a2, a3⟩ := HCY.out w2 hb2; have HB2' := Lib.hid hb2; clear hb2)
      | (refine ⟨trivial, rfl, ?_⟩; gi_at_call 6; refine (callsIn_wide.2 (HG.out w2 (HUP.out w2 HB2'.out))).mono ?_; rintro e w3 ⟨rfl, hb3⟩; have hb3' := HB2'.out.trans (hb3.mono HB2'.out.size); obtain ⟨d0, d1, d2, d3⟩ := HCY.out w3 hb3'; have HB3' := Lib.hid hb3'; clear hb3 hb3')
      | (refine ⟨trivial, rfl, ?_⟩; gi_at_call 7; refine (callsIn_wide.2 (HIT.out w3 (HUP.out w3 HB3'.out))).mono ?_; rintro e w4 ⟨v1, v2, rfl, hip, hb4⟩; obtain ⟨g1, c1, g2, c2, rfl, rfl, hit⟩ := items_at hip; obtain ⟨w5, hw5, T⟩ : ∃ w5, (w4.alloc (.cells #[.slice (some ⟨g1, 0, none⟩) x.count c1] 23)).alloc (.cells #[.slice (some ⟨g2, 0, none⟩) x.count c2] 28) = w5 ∧ Two w4 w5 (.slice (some ⟨g1, 0, none⟩) x.count c1) (.slice (some ⟨g2, 0, none⟩) x.count c2) := ⟨_, rfl, two_new _ _ _⟩; have hb5 := HB3'.out.trans (hb4.mono HB3'.out.size); have hb5' := hb5.trans (T.low.mono hb5.size); have HIP := Lib.hid hit; have HB4 := Lib.hid hb5; have HB5 := Lib.hid hb5'; obtain ⟨f0, f1, f2, f3⟩ := HCY.out w5 hb5'; have HT := Lib.hid T; clear hb4 hip hb5 hb5' hit T)
      | (refine ⟨trivial, rfl, ?_⟩; gi_at_call 8; refine (callsIn_wide.2 (HAL'.out w5 (HUP.out w5 HB5.out))).mono ?_; rintro e w6 ⟨Bk, A', c', rfl, hbk, hat, hge, hb6⟩; have HBK := Lib.hid hbk; have HAT := Lib.hid hat; have HGE := Lib.hid hge; have HB6 := Lib.hid hb6; clear hbk hat hge hb6))
    have hb6 := HB5.out.trans (HB6.out.mono HB5.out.size)
    obtain ⟨e0, e1, e2, e3⟩ := HCY.out w6 hb6
    have hup6 := HUP.out w6 hb6
    have D1 := fun d os => CallsIn.regrown_of (F := Fence.wide) (r := 0) (callsIn_wide.2 (HD1.out (grow (redrawn w6 d) os) (hup6.trans ((below_regrown w6 d os).mono hup6.size))))
    have D2 := fun d os => CallsIn.regrown_of (F := Fence.wide) (r := 0) (callsIn_wide.2 (HD2.out (grow (redrawn w6 d) os) (hup6.trans ((below_regrown w6 d os).mono hup6.size))))
    have D3 := fun d os => CallsIn.regrown_of (F := Fence.wide) (r := 0) (callsIn_wide.2 (HSZ.out (grow (redrawn w6 d) os) (hup6.trans ((below_regrown w6 d os).mono hup6.size))))
    have D4 := fun d os => CallsIn.regrown_of (F := Fence.wide) (r := 0) (callsIn_wide.2 (HC1.out (grow (redrawn w6 d) os) (hup6.trans ((below_regrown w6 d os).mono hup6.size))))
    have D5 := fun d os => CallsIn.regrown_of (F := Fence.wide) (r := 0) (callsIn_wide.2 (HC2.out (grow (redrawn w6 d) os) (hup6.trans ((below_regrown w6 d os).mono hup6.size))))
    have K1 := Lib.hid D1
    have K2 := Lib.hid D2
    have K3 := Lib.hid D3
    have K4 := Lib.hid D4
    have K5 := Lib.hid D5
    have HB6' := Lib.hid hb6
    have hl5 := (HT.out.b1.on HB6.out).cell 0
    have ke0 := cell_regrown e0
    have ke1 := cell_regrown e1
    have ke2 := cell_regrown e2
    have ke3 := cell_regrown e3
    have kl := cell_regrown (w := w6) (a := ⟨w4.heap.size, 0, none⟩) (v := .slice (some ⟨g1, 0, none⟩) x.count c1) (by rw [hl5]; rfl)
    obtain ⟨dp, hdp⟩ : ∃ dp : Int, (x.depth : Int) = dp := ⟨_, rfl⟩
    obtain ⟨ck, hck⟩ : ∃ ck : Int, checkR wrongI x = ck := ⟨_, rfl⟩
    obtain ⟨m, hm⟩ : ∃ m : Nat, x.count = m := ⟨_, rfl⟩
    rw [hdp] at K1 K2
    rw [hck] at K4 K5
    rw [hm] at K3 kl HT
    rw [hm]
    have HM := Lib.hid hm
    clear D1 D2 D3 D4 D5 hb6 e0 e1 e2 e3 hup6 hl5 HA HIT HD1 HD2 HSZ HC1 HC2 hm hck hdp HAL HAL' HG hres hres' a0 a1 a2 a3 d0 d1 d2 d3 f0 f1 f2 f3 hw1 hw5 p0 p1 p2 p3
    have hfn := run_all_nil Bk
    refine wpIn_region_quietR (by kernel_rfl) (by kernel_rfl) (by kernel_rfl) ?_
    repeat (refine wpQuietIn_step (fun _ _ _ _ => trivial) (fun K hK => ?_); go_simp; first | (refine hK _ ?_; clear hK K) | (apply Exists.intro; refine ⟨fun _ => ?_, hK _ ?_⟩; (· refine ⟨rfl, ?_⟩; first | exact K1.out _ _ | exact K2.out _ _ | exact K3.out _ _ | exact K4.out _ _ | exact K5.out _ _); clear hK K))
    refine wpQuietIn_nil ?_
    intro _ hw'
    obtain ⟨⟨dq, osq⟩, hw''⟩ := hw'
    subst hw''
    clear ke0 ke1 ke2 ke3 kl K1 K2 K3 K4 K5
    have HB7 := Lib.hid (below_regrown w6 dq osq)
    generalize grow (redrawn w6 dq) osq = w7 at *
    have HCX : RowKit.Hid (Cx x few w.heap.size w4.heap.size Bk g1 c1 g2 c2 A' c' w7) := Lib.hid (by
      have hb46 := HT.out.low.trans (HB6.out.mono (by have := HT.out.size; omega))
      have hb47 := hb46.trans (HB7.out.mono hb46.size)
      have hb57 := HB6.out.trans (HB7.out.mono HB6.out.size)
      have hb17 := HB5.out.trans (hb57.mono HB5.out.size)
      have r2 := HB2.out.on hb17
      have r3 := HB3.out.on hb17
      have r4 := HT.out.b1.on hb57
      have r5 := HT.out.b2.on hb57
      have hs4 := HS.out.size
      have hs5 := HB4.out.size
      have hs6 := HT.out.size
      refine ⟨by rw [r2.cell]; rfl, by rw [r3.cell]; rfl, r3.free 0, by rw [r4.cell, HM.out]; rfl, by rw [r5.cell, HM.out]; rfl, HIP.out.on hb47 (by omega), HBK.out.on HB7.out, HAT.out.keep (HB7.out.mono (Nat.le_of_lt HBK.out.lt)), by omega, by have := HGE.out; omega⟩)
    have HLOW : RowKit.Hid (RowKit.Below w.heap.size w w7) := Lib.hid (HUP.out w7 (HB6'.out.trans (HB7.out.mono HB6'.out.size)))
    clear HT HIP HBK HAT HGE HB6 HB7 HB6' HB5 HB4 HB2 HB3 HS HZ HUP HCY HB1 HB2' HB3' hfn
    obtain ⟨L, hL⟩ : ∃ L, w4.heap.size = L := ⟨_, rfl⟩
    rw [hL] at HCX ⊢
    clear hL
    gi_wp2
    refine wpIn_loop_rounds 3 ?_
    rw [roundsIn_succ]
    gi_wp2
    obtain ⟨w9, hw9, r1, k1, T9, hz9⟩ : ∃ w9, (w7.alloc (.cells #[.int .i64 0] 3)).alloc (.cells #[.int .i64 0] 3) = w9 ∧ Blk w9 w7.heap.size 3 #[.int .i64 0] ∧ Blk w9 (w7.heap.size + 1) 3 #[.int .i64 0] ∧ RowKit.Below w7.heap.size w7 w9 ∧ w9.heap.size = w7.heap.size + 2 :=
      ⟨_, rfl, (Blk.fresh w7 _ _).alloc _, by have := Blk.fresh (w7.alloc (.cells #[.int .i64 0] 3)) 3 #[.int .i64 0]; rwa [World.size_alloc] at this, (below_alloc w7 _).alloc (by simp) _, by simp⟩
    rw [hw9]
    clear hw9
    obtain ⟨R, hR⟩ : ∃ R, w7.heap.size = R := ⟨_, rfl⟩
    rw [hR] at r1 k1 T9 hz9 ⊢
    have hcx9 := HCX.out.on (hR ▸ T9)
    have hBR : Bk < R := by rw [← hR]; exact HCX.out.bk.lt
    have HGR : RowKit.Hid (w.heap.size < R) := Lib.hid (by have : w.heap.size + 1 < w7.heap.size := block_lt_of_cell HCX.out.few; omega)
    refine wp_rangeB (gf := 21) (lb := #[.pointer (some ⟨Bk, 0, none⟩)]) rfl (enters_of Try.func21 (by kernel_rfl) rfl)
      (all_seq x A' c' (R + 1) Bk w9 (by have := (HX.out ()).1; omega) (by omega) hcx9.bk (hcx9.at_.more (by omega))) (RowKit.Below.refl _ _) (by omega) told_size
      (fun pre W => Blk W R 3 #[.int .i64 0] ∧ Blk W (R + 1) 3 #[.int .i64 (pre.length : Int)] ∧ RowKit.Below R w7 W)
      (fun c' pre W => c' = .exit 2 ∧ Blk W R 3 #[.int .i64 0] ∧ Blk W (R + 1) 3 #[.int .i64 (pre.length : Int)] ∧ RowKit.Below R w7 W)
      (fun s W1 W2 ⟨k0, k1, k2⟩ hb => ⟨k0.below hb (by omega), k1.below hb (by omega), k2.trans (hb.mono (by omega))⟩)
      (fun _ s W1 W2 ⟨e, k0, k1, k2⟩ hb => ⟨e, k0.below hb (by omega), k1.below hb (by omega), k2.trans (hb.mono (by omega))⟩) ⟨r1, k1, T9⟩
      (fun z a' W => ∃ By, w9.heap.size + 1 < By ∧ Blk W By 25 #[.int .i64 z.t.k, .int .u64 z.t.n, .string z.t.s, .slice z.A z.t.l.length z.cap] ∧ OkT (w9.heap.size + 2) z W ∧ a' = { tmps := #[.agg #[.int .i64 x.k, .int .u64 x.n, .string x.s, .slice A x.l.length c], .int .u8 few, .pointer (some ⟨w.heap.size, 0, none⟩), .pointer (some ⟨w.heap.size + 1, 0, none⟩), .pointer (some ⟨w.heap.size + 1 + 1, 0, none⟩), .pointer (some ⟨L, 0, none⟩), .pointer (some ⟨L + 1, 0, none⟩), .func (.func 21) #[] #[.pointer (some ⟨Bk, 0, none⟩)], .pointer (some ⟨R, 0, none⟩), .pointer (some ⟨R + 1, 0, none⟩), .int .i64 (z.d : Int), .pointer (some ⟨By, 0, none⟩), .bool true, .bool false, .agg #[.int .i64 x.k, .int .u64 x.n, .string x.s, .slice A x.l.length c], .bool false, .tuple #[.slice (some ⟨g1, 0, none⟩) m c1, .slice (some ⟨g2, 0, none⟩) m c2], .agg #[.int .i64 x.k, .int .u64 x.n, .string x.s, .slice A x.l.length c], .tuple #[.slice (some ⟨g1, 0, none⟩) m c1, .slice (some ⟨g2, 0, none⟩) m c2], .slice (some ⟨g1, 0, none⟩) m c1, .slice (some ⟨g2, 0, none⟩) m c2, .agg #[.int .i64 x.k, .int .u64 x.n, .string x.s, .slice A x.l.length c], .func (.func 21) #[] #[.pointer (some ⟨Bk, 0, none⟩)], .func (.func 21) #[] #[.pointer (some ⟨Bk, 0, none⟩)], .bool false, .bool false, .agg #[.int .i64 x.k, .int .u64 x.n, .string x.s, .slice A x.l.length c], .int .i64 dp, .agg #[.int .i64 x.k, .int .u64 x.n, .string x.s, .slice A x.l.length c], .int .i64 dp, .bool false, .bool false, .bool false, .agg #[.int .i64 x.k, .int .u64 x.n, .string x.s, .slice A x.l.length c], .int .i64 (m : Int), .slice (some ⟨g1, 0, none⟩) m c1, .int .i64 (m : Int), .bool false, .bool false, .bool false, .agg #[.int .i64 x.k, .int .u64 x.n, .string x.s, .slice A x.l.length c], .int .i64 ck, .agg #[.int .i64 x.k, .int .u64 x.n, .string x.s, .slice A x.l.length c], .int .i64 ck, .bool false, .bool false, .int .i64 0, .bool true, undef, undef, .func (.func 21) #[] #[.pointer (some ⟨Bk, 0, none⟩)], .int .i64 (z.d : Int), vI z.t z.A z.cap, undef, undef, undef, undef, undef, undef, undef, undef, undef, undef, undef, undef, undef, undef, undef, undef, undef, undef, undef, undef, undef, undef, undef, undef, undef, undef, undef, undef, undef, undef, undef, undef, undef, undef, undef, undef, undef, undef, undef, undef], defers := [] })
      ?hAx ?assign ?body 2 (fun _ _ _ h => h.1) ?hQ ?out
    case hAx =>
      rintro z a' W o ⟨By, h1, h2, h3, h4⟩
      exact ⟨By, h1, h2.putFar (by omega) o, ⟨h3.1, h3.2.1, AtL.keep (fun b hb hlt => World.putObj_heap_other (by omega)) (fun _ h => h) _ _ h3.2.2⟩, h4⟩
    case hQ => exact fun _ _ h => h
    case assign =>
      intro l pre z W K hi hG hOk hs hlen hK
      dsimp only [toldV, vI]
      have T6 := below_alloc W (.cells #[.int .i64 z.t.k, .int .u64 z.t.n, .string z.t.s, .slice z.A z.t.l.length z.cap] 25)
      have B6 := Blk.fresh W 25 #[.int .i64 z.t.k, .int .u64 z.t.n, .string z.t.s, .slice z.A z.t.l.length z.cap]
      gi_wp2
      exact hK _ _ (Rs.of_below T6 (by omega) _) ⟨hi.1.on T6, hi.2.1.on T6, hi.2.2.trans (T6.mono (by omega))⟩ ⟨W.heap.size, by omega, B6, ⟨hOk.1, hOk.2.1, hOk.2.2.on T6⟩, rfl⟩
    case body =>
      rintro l pre z a' W ⟨k0, k1, k2⟩ hG ⟨By, hBy, kB, hok, rfl⟩ hs hlen
      have hcx := HCX.out.on (hR ▸ k2)
      obtain ⟨hd, A2, e2, y0, y1, y2, y3, ha2⟩ := hcx.it.at_ _ _ _ (told_next hG)
      obtain ⟨z0, z1, z2, z3, -⟩ := iblk kB
      have hzc : z.t.count ≤ 1099511627776 := by
        have h1 := It.items_count x 1 (z.d, z.t) (List.mem_of_getElem? (told_next hG))
        have h2 : z.t.count ≤ x.count := h1
        have := (HX.out ()).1
        omega
      have D := fun d os => CallsIn.regrown_of (F := Fence.wide.inRound l) (r := 0) (CallsIn.inRound l (callsIn_wide.2 (ref_Same z.t.count z.t z.t z.A A2 z.cap e2 (grow (redrawn W d) os) (Nat.le_refl _) hzc ⟨hok.1, hok.2.1, (hok.2.2.more fun _ _ => trivial).on (below_regrown W d os)⟩ (ha2.toV.on (below_regrown W d os)))))
      rw [sameB_refl] at D
      have hlt := told_lt hG
      have hkl := hcx.l
      have hkd := hcx.d
      have hfw := hcx.few
      obtain ⟨q, hq⟩ : ∃ q, pre.length = q := ⟨_, rfl⟩
      rw [HM.out] at hkl hkd hlt
      rw [hq] at hlt k1 hd y0 y1 y2 y3
      have HPQ := Lib.hid hq
      have hk0 : W.cell? ⟨R + 1, 0, none⟩ = some (.int .i64 (q : Int)) := by rw [k1.cell]; rfl
      have hr0 : W.cell? ⟨R, 0, none⟩ = some (.int .i64 0) := by rw [k0.cell]; rfl
      have hkf := k1.free 0
      have hqm : (q : Int) < m := by omega
      have hmm : (m : Int) < 1099511627776 := by have := (HX.out ()).1; have := HM.out; omega
      have hge : decide (m ≤ q) = false := by simp; omega
      have HD := Lib.hid D
      have K0 := Lib.hid k0
      have K1 := Lib.hid k1
      have K2 := Lib.hid k2
      have xz0 := cell_regrown z0
      have xz1 := cell_regrown z1
      have xz2 := cell_regrown z2
      have xz3 := cell_regrown z3
      have xy0 := cell_regrown y0
      have xy1 := cell_regrown y1
      have xy2 := cell_regrown y2
      have xy3 := cell_regrown y3
      have xhd := cell_regrown hd
      have xhkl := cell_regrown hkl
      have xhkd := cell_regrown hkd
      have xhk0 := cell_regrown hk0
      simp only [vI] at HD
      clear hlt hq D hcx hok kB ha2 k0 k1 k2 hG hzc z0 z1 z2 z3 y0 y1 y2 y3 hd hkl hkd hlen
      gi_wp2
      refine wpIn_region_quietR (by kernel_rfl) (by kernel_rfl) (by kernel_rfl) ?_
      repeat (refine wpQuietIn_step (fun _ _ _ _ => trivial) (fun K hK => ?_); go_simp; first | (refine hK _ ?_; clear hK K) | (apply Exists.intro; refine ⟨fun _ => ?_, hK _ ?_⟩; (· refine ⟨rfl, ?_⟩; exact HD.out _ _); clear hK K))
      refine wpQuietIn_nil ?_
      intro _ hw'
      obtain ⟨⟨dq, osq⟩, hw''⟩ := hw'
      subst hw''
      have hb := below_regrown W dq osq
      have hk0' := (cell_regrown hk0) dq osq
      have hr0' := (cell_regrown hr0) dq osq
      have hfw' := (cell_regrown hfw) dq osq
      have j0 := K0.out.on hb
      have j1 := K1.out.on hb
      have hkf' := j1.free 0
      have J0 := Lib.hid j0
      have J1 := Lib.hid j1
      have HB := Lib.hid hb
      have hsb := hb.size
      clear j0 j1 hb HD xz0 xz1 xz2 xz3 xy0 xy1 xy2 xy3 xhd xhkl xhkd xhk0 hk0 hr0 hfw hkf hge
      generalize grow (redrawn W dq) osq = V at *
      have fin : Rs (R + 1) w9.heap.size W (V.setCell ⟨R + 1, 0, none⟩ (.int .i64 ((q : Int) + 1))) ∧ Blk (V.setCell ⟨R + 1, 0, none⟩ (.int .i64 ((q : Int) + 1))) R 3 #[.int .i64 0] ∧ Blk (V.setCell ⟨R + 1, 0, none⟩ (.int .i64 ((q : Int) + 1))) (R + 1) 3 #[.int .i64 ((pre ++ [z]).length : Int)] ∧ RowKit.Below R w7 (V.setCell ⟨R + 1, 0, none⟩ (.int .i64 ((q : Int) + 1))) := by
        refine ⟨(Rs.of_below HB.out (by omega) _).trans (Rs.set V _ (by omega) (by omega)), J0.out.far (by simp) _, ?_, (K2.out.trans (HB.out.mono (by omega))).setCell (p := ⟨R + 1, 0, none⟩) (by show R ≤ R + 1; omega) _⟩
        have := J1.out.put 0 (.int .i64 ((q : Int) + 1))
        rw [List.length_append, HPQ.out]
        simpa using this
      have HFIN := Lib.hid fin
      clear fin J0 J1 K0 K1 K2 HB HPQ
      have hqb : (q : Int) < 1099511627776 := by omega
      have hqz : (0 : Int) ≤ (q : Int) := by omega
      clear hmm hqm hs hsb hBy
      generalize (q : Int) = qi at *
      have hgR := HGR.out
      have hne1 : w.heap.size ≠ R := by omega
      have hne2 : R ≠ w.heap.size := by omega
      clear hgR
      by_cases hfq : few < qi + 1
      · gi_wp2
        exact ⟨HFIN.out.1, rfl, HFIN.out.2⟩
      · gi_wp2
        have hfin := HFIN.out
        rw [hz9] at hfin
        exact hfin
    case out =>
      intro W hs hor hK
      obtain ⟨q, hr0, hk0, hlow⟩ : ∃ q : Int, Blk W R 3 #[.int .i64 0] ∧ Blk W (R + 1) 3 #[.int .i64 q] ∧ RowKit.Below R w7 W := by
        rcases hor with ⟨xs, _, h1, h2, h3⟩ | ⟨pre, _, _, h1, h2, h3⟩
        · exact ⟨_, h1, h2, h3⟩
        · exact ⟨_, h1, h2, h3⟩
      have hr1 : W.cell? ⟨R, 0, none⟩ = some (.int .i64 0) := by rw [hr0.cell]; rfl
      rw [hz9] at hK hs
      have HCB := Lib.hid (HCX.out.on (hR ▸ hlow))
      have HLOW2 := Lib.hid (HLOW.out.trans (hlow.mono (by have := HGR.out; omega)))
      clear hor hr0 hk0 hlow hcx9 HCX HLOW T9 r1 k1 hR
      gi_wp2
      rw [roundsIn_succ]
      gi_wp2
      obtain ⟨wb, rfl⟩ : ∃ wb, wb = W := ⟨_, rfl⟩
      obtain ⟨w12, hw12, r1, k1, T9, hzb⟩ : ∃ w12, (wb.alloc (.cells #[.int .i64 1] 3)).alloc (.cells #[.int .i64 0] 3) = w12 ∧ Blk w12 wb.heap.size 3 #[.int .i64 1] ∧ Blk w12 (wb.heap.size + 1) 3 #[.int .i64 0] ∧ RowKit.Below wb.heap.size wb w12 ∧ w12.heap.size = wb.heap.size + 2 :=
        ⟨_, rfl, (Blk.fresh wb _ _).alloc _, by have := Blk.fresh (wb.alloc (.cells #[.int .i64 1] 3)) 3 #[.int .i64 0]; rwa [World.size_alloc] at this, (below_alloc wb _).alloc (by simp) _, by simp⟩
      rw [hw12]
      clear hw12
      obtain ⟨Q, hQ⟩ : ∃ Q, wb.heap.size = Q := ⟨_, rfl⟩
      rw [hQ] at r1 k1 T9 hzb hs ⊢
      have hcx9 := HCB.out.on (hQ ▸ T9)
      have hRQ : R + 4 ≤ Q := hs
      have hmk := (T9.block (R + 2) (by omega)).trans hK
      have HGQ : RowKit.Hid (w.heap.size < Q) := Lib.hid (by have := HGR.out; omega)
      clear hr1
      refine wp_rangeB (gf := 21) (lb := #[.pointer (some ⟨Bk, 0, none⟩)]) rfl (enters_of Try.func21 (by kernel_rfl) rfl)
        (all_seq x A' c' (Q + 1) Bk w12 (by have := (HX.out ()).1; omega) (by omega) hcx9.bk (hcx9.at_.more (by omega))) (RowKit.Below.refl _ _) (by omega) told_size
        (fun pre W => Blk W Q 3 #[.int .i64 1] ∧ Blk W (Q + 1) 3 #[.int .i64 (pre.length : Int)] ∧ RowKit.Below Q wb W ∧ W.heap[(R + 2)]? = some (.deferred (some [])))
        (fun c' pre W => c' = .exit 2 ∧ False ∧ Blk W Q 3 #[.int .i64 1] ∧ Blk W (Q + 1) 3 #[.int .i64 (pre.length : Int)] ∧ RowKit.Below Q wb W ∧ W.heap[(R + 2)]? = some (.deferred (some [])))
        (fun s W1 W2 ⟨k0, k1, k2, k3⟩ hb => ⟨k0.below hb (by omega), k1.below hb (by omega), k2.trans (hb.mono (by omega)), (hb.block _ (by omega)).trans k3⟩)
        (fun _ s W1 W2 ⟨_, hf, _⟩ _ => hf.elim) ⟨r1, k1, T9, hmk⟩
        (fun z a' W => ∃ By, w12.heap.size + 1 < By ∧ Blk W By 25 #[.int .i64 z.t.k, .int .u64 z.t.n, .string z.t.s, .slice z.A z.t.l.length z.cap] ∧ OkT (w12.heap.size + 2) z W ∧ a' = { tmps := #[.agg #[.int .i64 x.k, .int .u64 x.n, .string x.s, .slice A x.l.length c], .int .u8 few, .pointer (some ⟨w.heap.size, 0, none⟩), .pointer (some ⟨w.heap.size + 1, 0, none⟩), .pointer (some ⟨w.heap.size + 1 + 1, 0, none⟩), .pointer (some ⟨L, 0, none⟩), .pointer (some ⟨L + 1, 0, none⟩), .func (.func 21) #[] #[.pointer (some ⟨Bk, 0, none⟩)], .pointer (some ⟨Q, 0, none⟩), .pointer (some ⟨Q + 1, 0, none⟩), .int .i64 (z.d : Int), .pointer (some ⟨By, 0, none⟩), .bool true, .bool false, .agg #[.int .i64 x.k, .int .u64 x.n, .string x.s, .slice A x.l.length c], .bool false, .tuple #[.slice (some ⟨g1, 0, none⟩) m c1, .slice (some ⟨g2, 0, none⟩) m c2], .agg #[.int .i64 x.k, .int .u64 x.n, .string x.s, .slice A x.l.length c], .tuple #[.slice (some ⟨g1, 0, none⟩) m c1, .slice (some ⟨g2, 0, none⟩) m c2], .slice (some ⟨g1, 0, none⟩) m c1, .slice (some ⟨g2, 0, none⟩) m c2, .agg #[.int .i64 x.k, .int .u64 x.n, .string x.s, .slice A x.l.length c], .func (.func 21) #[] #[.pointer (some ⟨Bk, 0, none⟩)], .func (.func 21) #[] #[.pointer (some ⟨Bk, 0, none⟩)], .bool false, .bool false, .agg #[.int .i64 x.k, .int .u64 x.n, .string x.s, .slice A x.l.length c], .int .i64 dp, .agg #[.int .i64 x.k, .int .u64 x.n, .string x.s, .slice A x.l.length c], .int .i64 dp, .bool false, .bool false, .bool false, .agg #[.int .i64 x.k, .int .u64 x.n, .string x.s, .slice A x.l.length c], .int .i64 (m : Int), .slice (some ⟨g1, 0, none⟩) m c1, .int .i64 (m : Int), .bool false, .bool false, .bool false, .agg #[.int .i64 x.k, .int .u64 x.n, .string x.s, .slice A x.l.length c], .int .i64 ck, .agg #[.int .i64 x.k, .int .u64 x.n, .string x.s, .slice A x.l.length c], .int .i64 ck, .bool false, .bool false, .int .i64 1, .bool true, .int .i64 0, .int .i64 1, .func (.func 21) #[] #[.pointer (some ⟨Bk, 0, none⟩)], .int .i64 (z.d : Int), vI z.t z.A z.cap, undef, undef, undef, undef, undef, undef, undef, undef, undef, undef, undef, undef, undef, undef, undef, undef, undef, undef, undef, undef, undef, undef, undef, undef, undef, undef, undef, undef, undef, undef, undef, .int .i64 0, .bool false, .bool false, undef, undef, undef, undef, .bool false, .int .i64 0], defers := [] })
        ?hAx ?assign ?body 2 (fun _ _ _ h => h.1) ?hQ ?out
      case hAx =>
        rintro z a' W o ⟨By, h1, h2, h3, h4⟩
        exact ⟨By, h1, h2.putFar (by omega) o, ⟨h3.1, h3.2.1, AtL.keep (fun b hb hlt => World.putObj_heap_other (by omega)) (fun _ h => h) _ _ h3.2.2⟩, h4⟩
      case hQ => exact fun _ _ h => h
      case assign =>
        intro l pre z W K hi hG hOk hs hlen hK
        dsimp only [toldV, vI]
        have T6 := below_alloc W (.cells #[.int .i64 z.t.k, .int .u64 z.t.n, .string z.t.s, .slice z.A z.t.l.length z.cap] 25)
        have B6 := Blk.fresh W 25 #[.int .i64 z.t.k, .int .u64 z.t.n, .string z.t.s, .slice z.A z.t.l.length z.cap]
        gi_wp2
        exact hK _ _ (Rs.of_below T6 (by omega) _) ⟨hi.1.on T6, hi.2.1.on T6, hi.2.2.1.trans (T6.mono (by omega)), (T6.block _ (by omega)).trans hi.2.2.2⟩ ⟨W.heap.size, by omega, B6, ⟨hOk.1, hOk.2.1, hOk.2.2.on T6⟩, rfl⟩
      case body =>
        rintro l pre z a' W ⟨k0, k1, k2, k3⟩ hG ⟨By, hBy, kB, hok, rfl⟩ hs hlen
        have hcx := HCB.out.on (hQ ▸ k2)
        obtain ⟨hd, A2, e2, y0, y1, y2, y3, ha2⟩ := hcx.it.at_ _ _ _ (told_next hG)
        obtain ⟨z0, z1, z2, z3, -⟩ := iblk kB
        have hzc : z.t.count ≤ 1099511627776 := by
          have h1 := It.items_count x 1 (z.d, z.t) (List.mem_of_getElem? (told_next hG))
          have h2 : z.t.count ≤ x.count := h1
          have := (HX.out ()).1
          omega
        have D := fun d os => CallsIn.regrown_of (F := Fence.wide.inRound l) (r := 0) (CallsIn.inRound l (callsIn_wide.2 (ref_Same z.t.count z.t z.t z.A A2 z.cap e2 (grow (redrawn W d) os) (Nat.le_refl _) hzc ⟨hok.1, hok.2.1, (hok.2.2.more fun _ _ => trivial).on (below_regrown W d os)⟩ (ha2.toV.on (below_regrown W d os)))))
        rw [sameB_refl] at D
        have hlt := told_lt hG
        have hkl := hcx.l
        have hkd := hcx.d
        have hfw := hcx.few
        obtain ⟨q, hq⟩ : ∃ q, pre.length = q := ⟨_, rfl⟩
        rw [HM.out] at hkl hkd hlt
        rw [hq] at hlt k1 hd y0 y1 y2 y3
        have HPQ := Lib.hid hq
        have hk0 : W.cell? ⟨Q + 1, 0, none⟩ = some (.int .i64 (q : Int)) := by rw [k1.cell]; rfl
        have hr0 : W.cell? ⟨Q, 0, none⟩ = some (.int .i64 1) := by rw [k0.cell]; rfl
        have hkf := k1.free 0
        have hqm : (q : Int) < m := by omega
        have hmm : (m : Int) < 1099511627776 := by have := (HX.out ()).1; have := HM.out; omega
        have hge : decide (m ≤ q) = false := by simp; omega
        have HD := Lib.hid D
        have K0 := Lib.hid k0
        have K1 := Lib.hid k1
        have K2 := Lib.hid k2
        have K3 := Lib.hid k3
        have xz0 := cell_regrown z0
        have xz1 := cell_regrown z1
        have xz2 := cell_regrown z2
        have xz3 := cell_regrown z3
        have xy0 := cell_regrown y0
        have xy1 := cell_regrown y1
        have xy2 := cell_regrown y2
        have xy3 := cell_regrown y3
        have xhd := cell_regrown hd
        have xhkl := cell_regrown hkl
        have xhkd := cell_regrown hkd
        have xhk0 := cell_regrown hk0
        simp only [vI] at HD
        clear hlt hq D hcx hok kB ha2 k0 k1 k2 hG hzc z0 z1 z2 z3 y0 y1 y2 y3 hd hkl hkd hlen k3
        gi_wp2
        refine wpIn_region_quietR (by kernel_rfl) (by kernel_rfl) (by kernel_rfl) ?_
        repeat (refine wpQuietIn_step (fun _ _ _ _ => trivial) (fun K hK => ?_); go_simp; first | (refine hK _ ?_; clear hK K) | (apply Exists.intro; refine ⟨fun _ => ?_, hK _ ?_⟩; (· refine ⟨rfl, ?_⟩; exact HD.out _ _); clear hK K))
        refine wpQuietIn_nil ?_
        intro _ hw'
        obtain ⟨⟨dq, osq⟩, hw''⟩ := hw'
        subst hw''
        have hb := below_regrown W dq osq
        have hk0' := (cell_regrown hk0) dq osq
        have hr0' := (cell_regrown hr0) dq osq
        have hfw' := (cell_regrown hfw) dq osq
        have j0 := K0.out.on hb
        have j1 := K1.out.on hb
        have hkf' := j1.free 0
        have J0 := Lib.hid j0
        have J1 := Lib.hid j1
        have HB := Lib.hid hb
        have hsb := hb.size
        clear j0 j1 hb HD xz0 xz1 xz2 xz3 xy0 xy1 xy2 xy3 xhd xhkl xhkd xhk0 hk0 hr0 hfw hkf hge
        generalize grow (redrawn W dq) osq = V at *
        have fin : Rs (Q + 1) w12.heap.size W (V.setCell ⟨Q + 1, 0, none⟩ (.int .i64 ((q : Int) + 1))) ∧ Blk (V.setCell ⟨Q + 1, 0, none⟩ (.int .i64 ((q : Int) + 1))) Q 3 #[.int .i64 1] ∧ Blk (V.setCell ⟨Q + 1, 0, none⟩ (.int .i64 ((q : Int) + 1))) (Q + 1) 3 #[.int .i64 ((pre ++ [z]).length : Int)] ∧ RowKit.Below Q wb (V.setCell ⟨Q + 1, 0, none⟩ (.int .i64 ((q : Int) + 1))) ∧ (V.setCell ⟨Q + 1, 0, none⟩ (.int .i64 ((q : Int) + 1))).heap[(R + 2)]? = some (.deferred (some [])) := by
          refine ⟨(Rs.of_below HB.out (by omega) _).trans (Rs.set V _ (by omega) (by omega)), J0.out.far (by simp) _, ?_, (K2.out.trans (HB.out.mono (by omega))).setCell (p := ⟨Q + 1, 0, none⟩) (by show Q ≤ Q + 1; omega) _, (Below.heap_setCell V ⟨Q + 1, 0, none⟩ _ (R + 2) (by show (R + 2) ≠ Q + 1; omega)).trans ((HB.out.block _ (by omega)).trans K3.out)⟩
          have := J1.out.put 0 (.int .i64 ((q : Int) + 1))
          rw [List.length_append, HPQ.out]
          simpa using this
        have HFIN := Lib.hid fin
        clear fin J0 J1 K0 K1 K2 HB HPQ K3
        have hqb : (q : Int) < 1099511627776 := by omega
        have hqz : (0 : Int) ≤ (q : Int) := by omega
        clear hmm hqm hs hsb hBy
        generalize (q : Int) = qi at *
        have hgR := HGQ.out
        have hne1 : w.heap.size ≠ Q := by omega
        have hne2 : Q ≠ w.heap.size := by omega
        clear hgR
        gi_wp2
        exact HFIN.out
      case out =>
        intro W hs hor hK
        obtain ⟨xs, hxs, hr0, hk0, hlow, hmk2⟩ : ∃ xs : List Told, xs.map toldOf = x.items 1 ∧ Blk W Q 3 #[.int .i64 1] ∧ Blk W (Q + 1) 3 #[.int .i64 (xs.length : Int)] ∧ RowKit.Below Q wb W ∧ W.heap[R + 2]? = some (.deferred (some [])) := by
          rcases hor with ⟨xs, hx, h1, h2, h3, h4⟩ | ⟨pre, _, _, hf, _⟩
          · exact ⟨xs, hx, h1, h2, h3, h4⟩
          · exact hf.elim
        rw [told_all hxs, HM.out] at hk0
        have hr1 : W.cell? ⟨Q, 0, none⟩ = some (.int .i64 1) := by rw [hr0.cell]; rfl
        have hk1 : W.cell? ⟨Q + 1, 0, none⟩ = some (.int .i64 (m : Int)) := by rw [hk0.cell]; rfl
        have hcx := HCB.out.on (hQ ▸ hlow)
        have hkl := hcx.l
        rw [HM.out] at hkl
        have HCW := Lib.hid hcx
        have HLOW3 := Lib.hid (HLOW2.out.trans (hlow.mono (by have := HGQ.out; omega)))
        rw [hzb] at hK hs
        clear hor hr0 hk0 hlow hcx9 T9 r1 k1 hcx hxs hmk
        gi_wp2
        rw [roundsIn_succ]
        obtain ⟨V, hV, j1, TV, hzV⟩ := alloc1 W 3 #[.int .i64 2]
        rw [hV]
        clear hV
        have hcV := HCW.out.on TV
        have hj : V.cell? ⟨W.heap.size, 0, none⟩ = some (.int .i64 2) := by rw [j1.cell]; rfl
        have hres := hcV.res
        have hresf := hcV.resf
        have e1 := (TV.block (Q + 2) (by omega)).trans hK
        have e2 := (TV.block (R + 2) (by omega)).trans hmk2
        have hlow4 := HLOW3.out.trans (TV.mono HLOW3.out.size)
        have hgR := HGR.out
        have hgQ := HGQ.out
        have E1 := Lib.hid ((Below.heap_setCell V ⟨w.heap.size + 2, 0, none⟩ (.bool true) (Q + 2) (by show Q + 2 ≠ w.heap.size + 2; omega)).trans e1)
        have E2 := Lib.hid ((Below.heap_setCell V ⟨w.heap.size + 2, 0, none⟩ (.bool true) (R + 2) (by show R + 2 ≠ w.heap.size + 2; omega)).trans e2)
        have HL4 := Lib.hid (hlow4.setCell (p := ⟨w.heap.size + 2, 0, none⟩) (by show w.heap.size ≤ w.heap.size + 2; omega) (.bool true))
        have HC5 : RowKit.Hid ((V.setCell ⟨w.heap.size + 2, 0, none⟩ (.bool true)).cell? ⟨w.heap.size + 2, 0, none⟩ = some (.bool true)) := Lib.hid (World.cell?_setCell_same _ _ _ hres)
        have HSV : RowKit.Hid (Q + 4 ≤ (V.setCell ⟨w.heap.size + 2, 0, none⟩ (.bool true)).heap.size) := Lib.hid (by simp [World.setCell]; omega)
        clear hcV e1 e2 hlow4 hK hmk2 j1 TV
        gi_wp2
        generalize V.setCell ⟨w.heap.size + 2, 0, none⟩ (.bool true) = U at *
        rw [hzb]
        refine ⟨by simp, .inl ⟨_, _, rfl, run_takeDeferred E1.out, ?_⟩⟩
        refine ⟨by simp, .inl ⟨_, _, rfl, run_takeDeferred ((World.putObj_heap_other (by omega)).trans E2.out), ?_⟩⟩
        have hsu := HSV.out
        have hend := put_below _ (.deferred none) (put_below U (.deferred none) HL4.out (show w.heap.size ≤ Q + 2 by omega) (by omega)) (show w.heap.size ≤ R + 2 by omega) (by simp; omega)
        have hc5 : ((U.putObj (Q + 2) (.deferred none)).putObj (R + 2) (.deferred none)).cell? ⟨w.heap.size + 2, 0, none⟩ = some (.bool true) := by
          have g1 : (U.putObj (Q + 2) (.deferred none)).heap[w.heap.size + 2]? = U.heap[w.heap.size + 2]? := World.putObj_heap_other (by omega)
          have g2 : ((U.putObj (Q + 2) (.deferred none)).putObj (R + 2) (.deferred none)).heap[w.heap.size + 2]? = (U.putObj (Q + 2) (.deferred none)).heap[w.heap.size + 2]? := World.putObj_heap_other (by omega)
          exact cell_kept' (g2.trans g1) HC5.out
        refine ⟨.bool true, ?_, rfl, hend⟩
        simp [results, Try.f3, go_sem, hc5]
  · gi_wp2_with (first
      | (refine ⟨trivial, rfl, ?_⟩; gi_at_call 5; refine (callsIn_wide.2 (HA.out w1)).mono ?_; rintro e w2 ⟨rfl, hb2⟩; obtain ⟨a0, a1, a2, a3⟩ := HCY.out w2 hb2; have HB2' := Lib.hid hb2; clear hb2)
      | (refine ⟨trivial, rfl, ?_⟩; gi_at_call 6; refine (callsIn_wide.2 (HG.out w2 (HUP.out w2 HB2'.out))).mono ?_; rintro e w3 ⟨rfl, hb3⟩; have hb3' := HB2'.out.trans (hb3.mono HB2'.out.size); have hbr := HB3.out.on hb3'; have hrc : w3.cell? ⟨w.heap.size + 2, 0, none⟩ = some (.bool false) := (by rw [hbr.cell]; rfl); have hrf := hbr.free 0; have HBR := Lib.hid hbr; have HB3' := Lib.hid hb3'; clear hb3 hb3' hbr))
    have hlow := HUP.out w3 HB3'.out
    have hlow4 := hlow.setCell (p := ⟨w.heap.size + 2, 0, none⟩) (by show w.heap.size ≤ w.heap.size + 2; omega) (.bool true)
    have HC5 : (w3.setCell ⟨w.heap.size + 2, 0, none⟩ (.bool true)).cell? ⟨w.heap.size + 2, 0, none⟩ = some (.bool true) := World.cell?_setCell_same _ _ _ hrc
    refine ⟨.bool true, ?_, rfl, hlow4⟩
    simp [results, Try.f3, go_sem, HC5]
end Go.Proofs.Ytbecflehidcbdaa.itemTells
