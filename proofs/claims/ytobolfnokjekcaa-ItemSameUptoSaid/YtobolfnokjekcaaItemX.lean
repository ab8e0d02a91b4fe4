
/- The law ItemSame. -/
import Derived.Test.YtobolfnokjekcaaItemAB
import Derived.Test.YtobolfnokjekcaaTreeO
import Derived.Lib.QuietBelow
namespace Go.Proofs.Ytobolfnokjekcaa.itemSame
open Go.ChangeShapes Go.WideShapes Go.ChangeAt Go.RowKit Go.Sort

set_option maxRecDepth 100000 in
set_option maxHeartbeats 4000000 in
theorem walk (x y : It) (A1 A2 : Option Addr) (c1 c2 : Nat) (w : World) (hx : okI 1048576 x) (hy : okI 1048576 y) (h1 : AtV w x A1 c1) (h2 : AtV w y A2 c2) :
    Calls Try.prog 4 #[vI x A1 c1, vI y A2 c2] w fun e w' => e = .returned (.bool true) ∧ Below w.heap.size w w' := by
  obtain ⟨w1, hw1, b1, b2, S⟩ := iblk2 w 25 #[.int .i64 x.k, .int .u64 x.n, .string x.s, .slice A1 x.l.length c1] #[.int .i64 y.k, .int .u64 y.n, .string y.s, .slice A2 y.l.length c2]
  obtain ⟨p0, p1, p2, p3, -⟩ := iblk b1
  obtain ⟨q0, q1, q2, q3, -⟩ := iblk b2
  have hxc := hx.1
  have hyc := hy.1
  have H1 := h1.toB
  have H2 := h2.toB
  have HA := Lib.hid (fun W => item_awake W)
  have HG1 := Lib.hid (fun W (hb : Below w.heap.size w W) => ref_Great x A1 c1 w.heap.size W (by omega) hb.size (H1.keep hb))
  have HG2 := Lib.hid (fun W (hb : Below w.heap.size w W) => ref_Great y A2 c2 w.heap.size W (by omega) hb.size (H2.keep hb))
  have HS1 := Lib.hid (fun W (hb : Below w.heap.size w W) => item_Same x y A1 A2 c1 c2 w.heap.size W (by omega) hb.size (H1.keep hb) (H2.keep hb))
  have HS2 := Lib.hid (fun W (hb : Below w.heap.size w W) => item_Same y x A2 A1 c2 c1 w.heap.size W (by omega) hb.size (H2.keep hb) (H1.keep hb))
  have HS3 := Lib.hid (fun W (hb : Below w.heap.size w W) => item_Same x x A1 A1 c1 c1 w.heap.size W (by omega) hb.size (H1.keep hb) (H1.keep hb))
  have HR1 := Lib.hid (fun W (hb : Below w.heap.size w W) => ref_Same x.count x y A1 A2 c1 c2 W (Nat.le_refl _) (by omega) (H1.keep hb).toV (H2.keep hb).toV)
  have HR2 := Lib.hid (fun W (hb : Below w.heap.size w W) => ref_Same y.count y x A2 A1 c2 c1 W (Nat.le_refl _) (by omega) (H2.keep hb).toV (H1.keep hb).toV)
  have HCP := Lib.hid (fun W (hb : Below w.heap.size w W) => item_Copy x A1 c1 w.heap.size W (by omega) hb.size (H1.keep hb))
  have HH1 := Lib.hid H1
  have HS := Lib.hid S
  have HBLK : RowKit.Hid (Blk w1 w.heap.size 25 (vC x A1 c1)) := Lib.hid b1
  have HXC := Lib.hid (fun _ : Unit => hxc)
  have carry : ∀ W, Below w1.heap.size w1 W → W.cell? ⟨w.heap.size, 0, none⟩ = some (.int .i64 x.k) ∧ W.cell? ⟨w.heap.size, 1, none⟩ = some (.int .u64 x.n) ∧ W.cell? ⟨w.heap.size, 2, none⟩ = some (.string x.s) ∧ W.cell? ⟨w.heap.size, 3, none⟩ = some (.slice A1 x.l.length c1) := fun W hb =>
    ⟨(hb.cell (p := ⟨w.heap.size, 0, none⟩) (block_lt_of_cell p0)).trans p0, (hb.cell (p := ⟨w.heap.size, 1, none⟩) (block_lt_of_cell p1)).trans p1, (hb.cell (p := ⟨w.heap.size, 2, none⟩) (block_lt_of_cell p2)).trans p2, (hb.cell (p := ⟨w.heap.size, 3, none⟩) (block_lt_of_cell p3)).trans p3⟩
  have carry2 : ∀ W, Below w1.heap.size w1 W → W.cell? ⟨w.heap.size + 1, 0, none⟩ = some (.int .i64 y.k) ∧ W.cell? ⟨w.heap.size + 1, 1, none⟩ = some (.int .u64 y.n) ∧ W.cell? ⟨w.heap.size + 1, 2, none⟩ = some (.string y.s) ∧ W.cell? ⟨w.heap.size + 1, 3, none⟩ = some (.slice A2 y.l.length c2) := fun W hb =>
    ⟨(hb.cell (p := ⟨w.heap.size + 1, 0, none⟩) (block_lt_of_cell q0)).trans q0, (hb.cell (p := ⟨w.heap.size + 1, 1, none⟩) (block_lt_of_cell q1)).trans q1, (hb.cell (p := ⟨w.heap.size + 1, 2, none⟩) (block_lt_of_cell q2)).trans q2, (hb.cell (p := ⟨w.heap.size + 1, 3, none⟩) (block_lt_of_cell q3)).trans q3⟩
  have HCY1 := Lib.hid carry
  have HCY2 := Lib.hid carry2
  have HUP := Lib.hid (fun W (hb : Below w1.heap.size w1 W) => S.trans (hb.mono S.size))
  have hcomm := sameB_comm y x
  have hself := sameB_refl x
  rw [hcomm] at HS2 HR2
  rw [hself] at HS3
  clear carry carry2 hcomm hself b1 b2 S H1 H2 h1 h2 hx hy hxc hyc
  obtain ⟨r, hr⟩ : ∃ r, sameB x y = r := ⟨_, rfl⟩
  obtain ⟨g1, hg1⟩ : ∃ r, greatB x = r := ⟨_, rfl⟩
  obtain ⟨g2, hg2⟩ : ∃ r, greatB y = r := ⟨_, rfl⟩
  rw [hr] at HS1 HS2 HR1 HR2
  rw [hg1] at HG1
  rw [hg2] at HG2
  have HGR := Lib.hid hg1
  clear hr hg1 hg2
  simp only [vI] at *
  go_enter Try.func4, Try.ntmps4
  cases g1
  · cases g2
    · go_wp2_with (first
        | (go_at_call 5; refine (HA.out w1).mono ?_; rintro e w2 ⟨rfl, hb2⟩; obtain ⟨a0, a1, a2, a3⟩ := HCY1.out w2 hb2; have HB2 := Lib.hid hb2; clear hb2)
        | (go_at_call 6; refine (HG1.out w2 (HUP.out w2 HB2.out)).mono ?_; clear HG1; rintro e w3 ⟨rfl, hb3⟩; have hb3' := HB2.out.trans (hb3.mono HB2.out.size); obtain ⟨d0, d1, d2, d3⟩ := HCY2.out w3 hb3'; have HB3 := Lib.hid hb3'; clear hb3 hb3')
        | (go_at_call 6; refine (HG2.out w3 (HUP.out w3 HB3.out)).mono ?_; rintro e w4 ⟨rfl, hb4⟩; have HB4 := Lib.hid (HB3.out.trans (hb4.mono HB3.out.size)); clear hb4))
      have hcp4 := HUP.out w4 HB4.out
      have D1 := fun d os => Calls.regrown_of (HS1.out (grow (redrawn w4 d) os) (hcp4.trans ((below_regrown w4 d os).mono hcp4.size)))
      have D2 := fun d os => Calls.regrown_of (HS2.out (grow (redrawn w4 d) os) (hcp4.trans ((below_regrown w4 d os).mono hcp4.size)))
      have D3 := fun d os => Calls.regrown_of (HS3.out (grow (redrawn w4 d) os) (hcp4.trans ((below_regrown w4 d os).mono hcp4.size)))
      have D4 := fun d os => Calls.regrown_of (HR1.out (grow (redrawn w4 d) os) (hcp4.trans ((below_regrown w4 d os).mono hcp4.size)))
      have D5 := fun d os => Calls.regrown_of (HR2.out (grow (redrawn w4 d) os) (hcp4.trans ((below_regrown w4 d os).mono hcp4.size)))
      have HD1 := Lib.hid D1
      have HD2 := Lib.hid D2
      have HD3 := Lib.hid D3
      have HD4 := Lib.hid D4
      have HD5 := Lib.hid D5
      obtain ⟨e0, e1, e2, e3⟩ := HCY1.out w4 HB4.out
      obtain ⟨f0, f1, f2, f3⟩ := HCY2.out w4 HB4.out
      have ke0 := cell_regrown e0
      have ke1 := cell_regrown e1
      have ke2 := cell_regrown e2
      have ke3 := cell_regrown e3
      have kf0 := cell_regrown f0
      have kf1 := cell_regrown f1
      have kf2 := cell_regrown f2
      have kf3 := cell_regrown f3
      clear D1 D2 D3 D4 D5 hcp4 e0 e1 e2 e3 f0 f1 f2 f3 HS1 HS2 HS3 HR2 HG2 HA a0 a1 a2 a3 d0 d1 d2 d3
      refine wp_region_quiet_below (by kernel_rfl) (by kernel_rfl) ?_
      repeat (quiet_step (first | exact HD1.out _ _ | exact HD2.out _ _ | exact HD3.out _ _ | exact HD4.out _ _ | exact HD5.out _ _))
      refine wpQuiet_nil ?_
      intro _ hw'
      obtain ⟨⟨dq, osq⟩, hw''⟩ := hw'
      subst hw''
      clear ke0 ke1 ke2 ke3 kf0 kf1 kf2 kf3 HD1 HD2 HD3 HD4 HD5
      have hb5 := HB4.out.trans ((below_regrown w4 dq osq).mono HB4.out.size)
      obtain ⟨e0, e1, e2, e3⟩ := HCY1.out _ hb5
      have HB5 := Lib.hid hb5
      clear hb5
      generalize grow (redrawn w4 dq) osq = w5 at *
      go_wp2_with fail
      rename_i K hK
      as_aux_lemma =>
      have hb5 := HUP.out w5 HB5.out
      have hblk : Blk w5 w.heap.size 25 (vC x A1 c1) := HBLK.out.on HB5.out
      refine wp_copies (N := w5.heap.size) (n := w.heap.size) (x := x) (g0 := w.heap.size) (A0 := A1) (c0 := c1) rfl hb5.size rfl rfl hblk (fun W hb => HCP.out W (hb5.trans (hb.mono hb5.size))) ?_ (fun a' W' D1 D3 gC gD A1' c1' A3 c3 h6 => hK _ _ (rest_ok (by exact rfl) (by exact rfl) (by exact rfl) rfl hblk hb5 rfl HH1.out (HXC.out ()) h6))
      exact ⟨rfl, low_of (by kernel_rfl), ⟨_, rfl, rfl, rfl, rfl⟩, ⟨_, rfl, rfl, rfl, rfl, aft (by kernel_rfl)⟩, ⟨_, rfl, rfl, rfl, rfl⟩, ⟨_, rfl, rfl, rfl, rfl, aft (by kernel_rfl)⟩, ⟨_, rfl, rfl, rfl, rfl⟩, ⟨_, rfl, rfl, rfl, rfl⟩,
        ⟨_, rfl, rfl, rfl, rfl, fun j hj => aft (by rcases hj with rfl | rfl | rfl | rfl | rfl <;> kernel_rfl)⟩, ⟨_, rfl, rfl, rfl, rfl, aft (by kernel_rfl)⟩⟩
    · go_wp2_with (first
        | (go_at_call 5; refine (HA.out w1).mono ?_; rintro e w2 ⟨rfl, hb2⟩; obtain ⟨a0, a1, a2, a3⟩ := HCY1.out w2 hb2; have HB2 := Lib.hid hb2; clear hb2)
        | (go_at_call 6; refine (HG1.out w2 (HUP.out w2 HB2.out)).mono ?_; clear HG1; rintro e w3 ⟨rfl, hb3⟩; have hb3' := HB2.out.trans (hb3.mono HB2.out.size); obtain ⟨d0, d1, d2, d3⟩ := HCY2.out w3 hb3'; have HB3 := Lib.hid hb3'; clear hb3 hb3')
        | (go_at_call 6; refine (HG2.out w3 (HUP.out w3 HB3.out)).mono ?_; rintro e w4 ⟨rfl, hb4⟩; have HB4 := Lib.hid (HB3.out.trans (hb4.mono HB3.out.size)); clear hb4))
      go_ret
      exact ⟨rfl, HUP.out _ HB4.out⟩
  · go_wp2_with (first
      | (go_at_call 5; refine (HA.out w1).mono ?_; rintro e w2 ⟨rfl, hb2⟩; obtain ⟨a0, a1, a2, a3⟩ := HCY1.out w2 hb2; have HB2 := Lib.hid hb2; clear hb2)
      | (go_at_call 6; refine (HG1.out w2 (HUP.out w2 HB2.out)).mono ?_; rintro e w3 ⟨rfl, hb3⟩; have HB3 := Lib.hid (HB2.out.trans (hb3.mono HB2.out.size)); clear hb3))
    go_ret
    exact ⟨rfl, HUP.out _ HB3.out⟩
end Go.Proofs.Ytobolfnokjekcaa.itemSame
