/- Package denote: may, right, Matches: of a schema that is well-formed, an item that may be. -/
import Derived.Test.YtjelgoeamaejmaaGreatKXAH
namespace Go.Proofs.YtjelgoeamaejmaaGreat
open Go.RowKit

theorem den_may (x : It) (A : Option Addr) (cap n : Nat) (w : World) (hx : okI 1048576 x) (hn : n ≤ w.heap.size) (h : AtB w n x A cap) (h0 : chI x = 0) :
    Calls Tryz.prog 36 #[vI x A cap] w fun e w' => e = .returned (.bool true) ∧ Below w.heap.size w w' := by
  obtain ⟨w1, hw1, b1, S⟩ := iblk1 w 28 #[.int .i64 x.k, .int .u64 x.n, .string x.s, .slice A x.l.length cap]
  obtain ⟨p0, p1, p2, p3, -⟩ := iblk b1
  have HC := Lib.hid (item_CheckW x A cap n w1 hx (Nat.le_trans hn S.size) (h.keep (S.mono hn)))
  have HS := Lib.hid S
  change Hid (Calls _ _ _ _ fun e w' => e = .returned (.int .i64 (chI x)) ∧ _) at HC
  rw [h0] at HC
  clear S h hn hx b1 h0
  simp only [vI] at HC ⊢
  go_enter Tryz.func36, Tryz.ntmps36
  go_wp2_with (first
    | (go_at_call 20; refine HC.out.mono ?_; rintro e w2 ⟨rfl, hb2⟩; have HB2 := Lib.hid hb2; clear hb2)
    | fail)
  go_ret
  exact ⟨rfl, HS.out.trans (HB2.out.mono HS.out.size)⟩
theorem two_boxes (w : World) (t1 t2 : TypeId) (a b : Array Value) : ∃ w1, (w.alloc (.cells a t1)).alloc (.cells b t2) = w1 ∧ Blk w1 w.heap.size t1 a ∧ Blk w1 (w.heap.size + 1) t2 b ∧ Below w.heap.size w w1 :=
  ⟨_, rfl, (Blk.fresh w t1 a).alloc _, Blk.freshAt _ t2 b _ (by simp), (below_alloc w _).alloc (by simp) _⟩
theorem den_right (xs : List Nd) (A : Option Addr) (cap : Nat) (x : It) (Ax : Option Addr) (cx n : Nat) (w : World) (hn : n ≤ w.heap.size) (hx : RdN w n A xs) (ho : ∀ x ∈ xs, okN x) (hm : xs.length ≤ 1099511627776) (hce : checkE chI xs = 0) (hi : AtB w n x Ax cx) (hio : okI 1048576 x) (hic : chI x = 0) :
    Calls Tryz.prog 23 #[vS A xs cap, vI x Ax cx] w fun e w' => e = .returned (.bool true) ∧ Below w.heap.size w w' := by
  obtain ⟨w1, hw1, b1, b2, S⟩ := two_boxes w 24 28 #[.slice A xs.length cap] #[.int .i64 x.k, .int .u64 x.n, .string x.s, .slice Ax x.l.length cx]
  obtain ⟨p0, p1, p2, p3, -⟩ := iblk b2
  have q0 := sblk b1
  have HCK := Lib.hid (sch_Check xs A cap n w1 (Nat.le_trans hn S.size) (hx.keep (S.mono hn)) ho hm)
  have HM := Lib.hid (fun W (hW : Below w1.heap.size w1 W) => den_may x Ax cx n W hio (Nat.le_trans hn (Nat.le_trans S.size hW.size)) (hi.keep ((S.trans (hW.mono S.size)).mono hn)) hic)
  have HS := Lib.hid S
  have HB2 := Lib.hid b2
  rw [hce] at HCK
  unfold vS at HCK ⊢
  generalize (checkI chI xs : Nat) = ci at *
  simp only [vI] at HM ⊢
  clear S hx ho hm hce hi hio hic b1 b2 hn
  generalize xs.length = m at *
  go_enter Tryz.func23, Tryz.ntmps23
  go_wp2_with (first
    | (go_at_call 19; refine HCK.out.mono ?_; rintro e w2 ⟨rfl, hb2⟩; obtain ⟨s0, s1, s2, s3, -⟩ := iblk (HB2.out.on hb2); have HB := Lib.hid hb2; clear hb2)
    | (go_at_call 36; refine (HM.out _ HB.out).mono ?_; rintro e w3 ⟨rfl, hb3⟩; have HB3 := Lib.hid hb3; clear hb3)
    | fail)
  go_ret
  exact ⟨rfl, (HS.out.trans (HB.out.mono HS.out.size)).trans (HB3.out.mono (HS.out.trans (HB.out.mono HS.out.size)).size)⟩
/-- The rules of a schema's nodes, whatever the parts. -/
def RulesOk (xs : List Nd) (x : It) (fr : Nat) (R : List Pt → Nat → Nat → Bool) : Prop :=
  ∀ (w0 : World) (n : Nat) (ps : List Pt), n ≤ w0.heap.size → Sp x ps.length ps → (∀ p ∈ ps, AtB w0 n p.x p.A p.cap) → ∀ (node : Nat) (y : Nd) (p : Pl) (W : World) (B H cm g : Nat), xs[node]? = some y → fr ≤ node → NdB W n y p → Tbl W B H cm g xs.length ps.length (node + 1) (R ps) → w0.heap.size ≤ B → Below w0.heap.size w0 W →
    Calls Tryz.prog 35 #[vN y p, standsV cm] W fun e W' => ∃ fid lb, e = .returned (.func (.func fid) #[] lb) ∧ (fid = 61 ∨ fid = 58 ∨ fid = 76) ∧ Rule w0 W W' B cm g xs.length ps.length node (R ps) ps fid lb ∧ Below W.heap.size W W'
theorem Sp.ne {x : It} {k : Nat} {ps : List Pt} (h : Sp x k ps) : 0 < ps.length := by
  have := h.first
  have := (List.getElem?_eq_some_iff.1 this).1
  rwa [List.length_map] at this
theorem den_stands0 (w : World) {B H cm g n m lo : Nat} {R : Nat → Nat → Bool} (h : Tbl w B H cm g n m lo R) (i : Nat) (hi : lo ≤ i) (hn : i < n) (ha : 0 < m) :
    Calls Tryz.prog 34 #[.int .i64 (i : Int), .int .i64 0, .pointer (some ⟨cm, 0, none⟩)] w fun e w' => e = .returned (.bool (R i 0)) ∧ w' = w := den_stands w h i 0 hi hn ha
set_option maxRecDepth 100000 in
set_option maxHeartbeats 4000000 in
theorem den_Matches (xs : List Nd) (A : Option Addr) (cap : Nat) (x : It) (Ax : Option Addr) (cx n node : Nat) (R : List Pt → Nat → Nat → Bool) (w : World) (hn : n ≤ w.heap.size) (hx : RdN w n A xs) (ho : ∀ x ∈ xs, okN x) (hm : xs.length ≤ 1048576) (hce : checkE chI xs = 0) (hi : AtB w n x Ax cx) (hio : okI 1048576 x) (hic : chI x = 0)
    (hnode : node < xs.length) (hr : RulesOk xs x node R) :
    Calls Tryz.prog 9 #[vS A xs cap, .int .i64 (node : Int), vI x Ax cx] w fun e w' => (∃ ps, Sp x ps.length ps ∧ e = .returned (.bool (R ps node 0))) ∧ Below w.heap.size w w' := by
  obtain ⟨w1, hw1, b1, b2, S⟩ := two_boxes w 24 28 #[.slice A xs.length cap] #[.int .i64 x.k, .int .u64 x.n, .string x.s, .slice Ax x.l.length cx]
  obtain ⟨p0, p1, p2, p3, -⟩ := iblk b2
  have q0 := sblk b1
  have HUP : Hid (∀ W, Below w1.heap.size w1 W → Below w.heap.size w W) := Lib.hid (fun W hW => S.trans (hW.mono S.size))
  have HRT := Lib.hid (den_right xs A cap x Ax cx n w1 (Nat.le_trans hn S.size) (hx.keep (S.mono hn)) ho (by omega) hce (hi.keep (S.mono hn)) hio hic)
  have HSP := Lib.hid (fun W (hW : Below w1.heap.size w1 W) => den_spread x Ax cx n W (by have := hio.1; omega) (Nat.le_trans hn (Nat.le_trans S.size hW.size)) (hi.keep ((S.trans (hW.mono S.size)).mono hn)))
  have HTL := Lib.hid (fun W (hW : Below w1.heap.size w1 W) (ps : List Pt) (Bp gp capp : Nat) (h1 : OwnP W Bp (.slice (some ⟨gp, 0, none⟩) ps.length capp) ps) (h2 : Sp x ps.length ps) (h3 : ∀ p ∈ ps, AtB W n p.x p.A p.cap) =>
    den_teller xs A cap n node ps Bp gp capp (R ps) W (Nat.le_trans hn (Nat.le_trans S.size hW.size)) (hx.keep ((S.trans (hW.mono S.size)).mono hn)) hm (Nat.le_of_lt hnode) (by have := h2.bound; have := hio.1; omega) h1 (hr W n ps (Nat.le_trans hn (Nat.le_trans S.size hW.size)) h2 h3))
  have HB1 := Lib.hid b1
  have HB2 := Lib.hid b2
  have HNX := Lib.hid hnode
  have hni : (node : Int) < (xs.length : Int) := by omega
  have hn0 : ¬ (node : Int) < 0 := by omega
  have hbig : (xs.length : Int) ≤ 1048576 := by omega
  unfold vS at HRT HTL ⊢
  unfold standsV at HTL
  simp only [vI] at HRT HSP ⊢
  clear S hx ho hm hce hi hio hic b1 b2 hn hr hnode
  generalize xs.length = m at *
  go_enter Tryz.func9, Tryz.ntmps9
  go_wp2_with (first
    | (go_at_call 23; refine HRT.out.mono ?_; rintro e w2 ⟨rfl, hb2⟩; have HB := Lib.hid hb2; clear hb2)
    | fail)
  have HX1 := Lib.hid (HB1.out.on HB.out)
  have HX2 := Lib.hid (HB2.out.on HB.out)
  have a0 := sblk HX1.out
  obtain ⟨i0, i1, i2, i3, -⟩ := iblk HX2.out
  have HD := Lib.hid (show Below w2.heap.size w2 w2.drew from (Below.refl _ _).drew)
  have hfol : Tryz.prog.follows Departure.mixedOrders = true := by kernel_rfl
  clear p0 p1 p2 p3 q0 hw1
  go_region_with (first
    | (go_at_call 22; refine (HSP.out _ (HB.out.trans (HD.out.mono HB.out.size))).mono ?_; rintro e w5 ⟨v5, ps, rfl, hO, hSp, hAt, hb⟩; obtain ⟨gp, capp, rfl, -, -, -, -⟩ := oc_head hO hSp.ne; have HO5 := Lib.hid hO; have HSp5 := Lib.hid hSp; have HAt5 := Lib.hid hAt; have HB5 := Lib.hid (HD.out.trans hb); have a5 := sblk (HX1.out.on HB5.out); obtain ⟨j0, j1, j2, j3, -⟩ := iblk (HX2.out.on HB5.out); clear hO hSp hAt hb)
    | (go_at_call 21; refine (HTL.out _ (HB.out.trans (HB5.out.mono HB.out.size)) ps _ gp capp HO5.out HSp5.out HAt5.out).mono ?_; rintro e w6 ⟨cm, gg, H, rfl, hT, hb⟩; have HT6 := Lib.hid hT; have HB6 := Lib.hid (HB5.out.trans (hb.mono HB5.out.size)); have a6 := sblk (HX1.out.on HB6.out); obtain ⟨k0, k1, k2, k3, -⟩ := iblk (HX2.out.on HB6.out); clear hT hb)
    | (go_at_call 34; refine (den_stands0 _ HT6.out node (Nat.le_refl _) HNX.out HSp5.out.ne).mono ?_; rintro e w7 ⟨rfl, rfl⟩)
    | fail)
  all_goals
    clear a0 i0 i1 i2 i3
    go_wp2_with fail
    go_ret
    exact ⟨⟨ps, HSp5.out, rfl⟩, HUP.out _ (HB.out.trans (HB6.out.mono HB.out.size))⟩
end Go.Proofs.YtjelgoeamaejmaaGreat
