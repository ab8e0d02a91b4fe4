/- Package denote: Schema, of a schema that is well-formed, an item that may be. -/
import Derived.Test.YtjelgoeamaejmaaGreatKXAM
namespace Go.Proofs.YtjelgoeamaejmaaGreat
open Go.RowKit

theorem den_teller0 (xs : List Nd) (A : Option Addr) (cap nb : Nat) (ps : List Pt) (Bp gp capp : Nat) (R : Nat → Nat → Bool) (w : World) (hnb : nb ≤ w.heap.size) (hx : RdN w nb A xs) (hxl : xs.length ≤ 1048576) (hpl : ps.length ≤ 1000000000)
    (hp : OwnP w Bp (.slice (some ⟨gp, 0, none⟩) ps.length capp) ps)
    (hr : ∀ (node : Nat) (x : Nd) (p : Pl) (W : World) (B H cm g : Nat), xs[node]? = some x → 0 ≤ node → NdB W nb x p → Tbl W B H cm g xs.length ps.length (node + 1) R → w.heap.size ≤ B → Below w.heap.size w W →
      Calls Tryz.prog 35 #[vN x p, standsV cm] W fun e W' => ∃ fid lb, e = .returned (.func (.func fid) #[] lb) ∧ (fid = 61 ∨ fid = 58 ∨ fid = 76) ∧ Rule w W W' B cm g xs.length ps.length node R ps fid lb ∧ Below W.heap.size W W') :
    Calls Tryz.prog 21 #[vS A xs cap, .int .i64 0, .slice (some ⟨gp, 0, none⟩) ps.length capp] w fun e w' => ∃ cm g H, e = .returned (standsV cm) ∧ Tbl w' w.heap.size H cm g xs.length ps.length 0 R ∧ Below w.heap.size w w' :=
  den_teller xs A cap nb 0 ps Bp gp capp R w hnb hx hxl (Nat.zero_le _) hpl hp hr
theorem den_stands00 (w : World) {B H cm g n m : Nat} {R : Nat → Nat → Bool} (h : Tbl w B H cm g n m 0 R) (hn : 0 < n) (ha : 0 < m) :
    Calls Tryz.prog 34 #[.int .i64 0, .int .i64 0, .pointer (some ⟨cm, 0, none⟩)] w fun e w' => e = .returned (.bool (R 0 0)) ∧ w' = w := den_stands w h 0 0 (Nat.le_refl _) hn ha
set_option maxRecDepth 100000 in
set_option maxHeartbeats 4000000 in
theorem den_Schema (xs : List Nd) (A : Option Addr) (cap : Nat) (x : It) (Ax : Option Addr) (cx n : Nat) (R : List Pt → Nat → Nat → Bool) (w : World) (hn : n ≤ w.heap.size) (hx : RdN w n A xs) (ho : ∀ x ∈ xs, okN x) (hm : xs.length ≤ 1048576) (hce : checkE chI xs = 0) (hi : AtB w n x Ax cx) (hio : okI 1048576 x) (hic : chI x = 0)
    (hnode : 0 < xs.length) (hr : RulesOk xs x 0 R) :
    Calls Tryz.prog 8 #[vS A xs cap, vI x Ax cx] w fun e w' => (∃ ps, Sp x ps.length ps ∧ e = .returned (.tuple #[.bool (R ps 0 0), .int .i64 0])) ∧ Below w.heap.size w w' := by
  obtain ⟨w1, hw1, b1, b2, S⟩ := two_boxes w 24 28 #[.slice A xs.length cap] #[.int .i64 x.k, .int .u64 x.n, .string x.s, .slice Ax x.l.length cx]
  have q0 := sblk b1
  have HUP : Hid (∀ W, Below w1.heap.size w1 W → Below w.heap.size w W) := Lib.hid (fun W hW => S.trans (hW.mono S.size))
  have HCK := Lib.hid (sch_Check xs A cap n w1 (Nat.le_trans hn S.size) (hx.keep (S.mono hn)) ho (by omega))
  have HCI := Lib.hid (fun W (hW : Below w1.heap.size w1 W) => item_CheckW x Ax cx n W hio (Nat.le_trans hn (Nat.le_trans S.size hW.size)) (hi.keep ((S.trans (hW.mono S.size)).mono hn)))
  change Hid (∀ W, Below w1.heap.size w1 W → Calls _ _ _ _ fun e w' => e = .returned (.int .i64 (chI x)) ∧ _) at HCI
  rw [hic] at HCI
  rw [hce] at HCK
  have HSP := Lib.hid (fun W (hW : Below w1.heap.size w1 W) => den_spread x Ax cx n W (by have := hio.1; omega) (Nat.le_trans hn (Nat.le_trans S.size hW.size)) (hi.keep ((S.trans (hW.mono S.size)).mono hn)))
  have HTL := Lib.hid (fun W (hW : Below w1.heap.size w1 W) (ps : List Pt) (Bp gp capp : Nat) (h1 : OwnP W Bp (.slice (some ⟨gp, 0, none⟩) ps.length capp) ps) (h2 : Sp x ps.length ps) (h3 : ∀ p ∈ ps, AtB W n p.x p.A p.cap) =>
    den_teller0 xs A cap n ps Bp gp capp (R ps) W (Nat.le_trans hn (Nat.le_trans S.size hW.size)) (hx.keep ((S.trans (hW.mono S.size)).mono hn)) hm (by have := h2.bound; have := hio.1; omega) h1 (hr W n ps (Nat.le_trans hn (Nat.le_trans S.size hW.size)) h2 h3))
  have HB1 := Lib.hid b1
  have HB2 := Lib.hid b2
  have HNX := Lib.hid hnode
  unfold vS at HCK HTL ⊢
  unfold standsV at HTL
  simp only [vI] at HCI HSP ⊢
  generalize (checkI chI xs : Nat) = ci at *
  clear S hx ho hm hce hi hio hic b1 b2 hn hr hnode
  generalize xs.length = m at *
  go_enter Tryz.func8, Tryz.ntmps8
  go_wp2_with (first
    | (go_at_call 19; refine HCK.out.mono ?_; rintro e w2 ⟨rfl, hb2⟩; obtain ⟨s0, s1, s2, s3, -⟩ := iblk (HB2.out.on hb2); have HBa := Lib.hid hb2; clear hb2)
    | (go_at_call 20; refine (HCI.out _ HBa.out).mono ?_; rintro e w3 ⟨rfl, hb3⟩; have HB := Lib.hid (HBa.out.trans (hb3.mono HBa.out.size)); clear hb3)
    | fail)
  have HX1 := Lib.hid (HB1.out.on HB.out)
  have HX2 := Lib.hid (HB2.out.on HB.out)
  have a0 := sblk HX1.out
  obtain ⟨i0, i1, i2, i3, -⟩ := iblk HX2.out
  have HD := Lib.hid (show Below w3.heap.size w3 w3.drew from (Below.refl _ _).drew)
  have hfol : Tryz.prog.follows Departure.mixedOrders = true := by kernel_rfl
  clear s0 s1 s2 s3 q0 hw1
  go_region_with (first
    | (go_at_call 22; refine (HSP.out _ (HB.out.trans (HD.out.mono HB.out.size))).mono ?_; rintro e w5 ⟨v5, ps, rfl, hO, hSp, hAt, hb⟩; obtain ⟨gp, capp, rfl, -, -, -, -⟩ := oc_head hO hSp.ne; have HO5 := Lib.hid hO; have HSp5 := Lib.hid hSp; have HAt5 := Lib.hid hAt; have HB5 := Lib.hid (HD.out.trans hb); have a5 := sblk (HX1.out.on HB5.out); obtain ⟨j0, j1, j2, j3, -⟩ := iblk (HX2.out.on HB5.out); clear hO hSp hAt hb)
    | (go_at_call 21; refine (HTL.out _ (HB.out.trans (HB5.out.mono HB.out.size)) ps _ gp capp HO5.out HSp5.out HAt5.out).mono ?_; rintro e w6 ⟨cm, gg, H, rfl, hT, hb⟩; have HT6 := Lib.hid hT; have HB6 := Lib.hid (HB5.out.trans (hb.mono HB5.out.size)); have a6 := sblk (HX1.out.on HB6.out); obtain ⟨k0, k1, k2, k3, -⟩ := iblk (HX2.out.on HB6.out); clear hT hb)
    | (go_at_call 34; refine (den_stands00 _ HT6.out HNX.out HSp5.out.ne).mono ?_; rintro e w7 ⟨rfl, rfl⟩)
    | fail)
  all_goals
    clear a0 i0 i1 i2 i3
    go_wp2_with fail
    refine bodyPost_ret (results_tmp2 rfl _ _ _) rfl ?_
    exact ⟨⟨ps, HSp5.out, rfl⟩, HUP.out _ (HB.out.trans (HB6.out.mono HB.out.size))⟩
end Go.Proofs.YtjelgoeamaejmaaGreat
