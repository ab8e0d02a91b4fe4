/- Package denote: teller, whole: whatever the rules of its nodes are. -/
import Derived.Test.YtjelgoeamaejmaaGreatKXAF
import Derived.Deep.RegionHeld3
namespace Go.Proofs.YtjelgoeamaejmaaGreat
open Go.RowKit

theorem schema_zero1 : ∀ w, (zeroValue 24).run Tryz.prog w = .ok (.agg #[.slice none 0 0]) w := (zero_of_info (n := 1) (by kernel_rfl)).1
theorem part_zero : ∀ w, (zeroValue 77).run Tryz.prog w = .ok (.agg #[.int .i64 0, .int .u64 0, .string ⟨#[]⟩, .slice none 0 0, .int .i64 0]) w := (zero_of_info (n := 5) (by kernel_rfl)).1
theorem part_info : (Tryz.prog.info? 77).map (·.size) = some 5 := by kernel_rfl
set_option maxRecDepth 100000 in
set_option maxHeartbeats 4000000 in
theorem den_teller (xs : List Nd) (A : Option Addr) (cap nb fr : Nat) (ps : List Pt) (Bp gp capp : Nat) (R : Nat → Nat → Bool) (w : World) (hnb : nb ≤ w.heap.size) (hx : RdN w nb A xs) (hxl : xs.length ≤ 1048576) (hfr : fr ≤ xs.length) (hpl : ps.length ≤ 1000000000)
    (hp : OwnP w Bp (.slice (some ⟨gp, 0, none⟩) ps.length capp) ps)
    (hr : ∀ (node : Nat) (x : Nd) (p : Pl) (W : World) (B H cm g : Nat), xs[node]? = some x → fr ≤ node → NdB W nb x p → Tbl W B H cm g xs.length ps.length (node + 1) R → w.heap.size ≤ B → Below w.heap.size w W →
      Calls Tryz.prog 35 #[vN x p, standsV cm] W fun e W' => ∃ fid lb, e = .returned (.func (.func fid) #[] lb) ∧ (fid = 61 ∨ fid = 58 ∨ fid = 76) ∧ Rule w W W' B cm g xs.length ps.length node R ps fid lb ∧ Below W.heap.size W W') :
    Calls Tryz.prog 21 #[vS A xs cap, .int .i64 (fr : Int), .slice (some ⟨gp, 0, none⟩) ps.length capp] w fun e w' => ∃ cm g H, e = .returned (standsV cm) ∧ Tbl w' w.heap.size H cm g xs.length ps.length fr R ∧ Below w.heap.size w w' := by
  obtain ⟨w1, hw1, b1, S⟩ := iblk1 w 24 #[.slice A xs.length cap]
  have HR := Lib.hid hr
  have HP := Lib.hid hp
  have HX := Lib.hid hx
  have HNB := Lib.hid hnb
  have p0 := sblk b1
  unfold vS
  clear hr hp hx hnb
  obtain ⟨n, hn⟩ : ∃ n, xs.length = n := ⟨_, rfl⟩
  obtain ⟨m, hm⟩ : ∃ m, ps.length = m := ⟨_, rfl⟩
  have HN := Lib.hid hn
  have HM := Lib.hid hm
  rw [hn] at HR p0 hxl hfr hw1 b1 ⊢
  rw [hm] at HR hpl HP ⊢
  clear hn hm
  have hmk1 := fun W => run_make_row' (P := Tryz.prog) 66 40 (.slice none 0 0) 24 Tryz.underlying66 infoRow rfl .i64 .i64 n (by omega) (by omega) W
  have hmk2 := fun W => run_make_row' (P := Tryz.prog) 40 4 (.bool false) 1 Tryz.underlying40 infoBool rfl .i64 .i64 m (by omega) (by omega) W
  rw [bls_made] at hmk2
  simp only [made_slices] at hmk1
  have HS := Lib.hid S
  have HB1 := Lib.hid b1
  have b2 := Blk.fresh w1 40 (Array.replicate n (.slice none 0 0))
  have b3 := Blk.freshAt (w1.alloc (.cells (Array.replicate n (.slice none 0 0)) 40)) 66 #[.slice (some ⟨w1.heap.size, 0, none⟩) n n] (w1.heap.size + 1) (by simp)
  have b2' := b2.alloc (.cells #[.slice (some ⟨w1.heap.size, 0, none⟩) n n] 66)
  have S2 : Below w1.heap.size w1 ((w1.alloc (.cells (Array.replicate n (.slice none 0 0)) 40)).alloc (.cells #[.slice (some ⟨w1.heap.size, 0, none⟩) n n] 66)) := (below_alloc w1 _).alloc (by simp) _
  obtain ⟨w2, hw2⟩ : ∃ w2, (w1.alloc (.cells (Array.replicate n (.slice none 0 0)) 40)).alloc (.cells #[.slice (some ⟨w1.heap.size, 0, none⟩) n n] 66) = w2 := ⟨_, rfl⟩
  rw [hw2] at b3 b2' S2
  have hsz2 : w2.heap.size = w1.heap.size + 2 := by rw [← hw2]; simp
  have p2 : w2.cell? ⟨w.heap.size, 0, none⟩ = some (.slice A n cap) := sblk (b1.on S2)
  have HT0 : Hid (Tbl w2 w1.heap.size (w1.heap.size + 2) (w1.heap.size + 1) w1.heap.size n m n R) := Lib.hid ⟨b3, by omega, by omega, _, b2', by simp, fun i h1 h2 => absurd h1 (by omega)⟩
  have HSZ2 := Lib.hid hsz2
  have HS2 := Lib.hid S2
  have hni : (n : Int) ≤ 1048576 := by omega
  clear b1 S b2 b3 b2' S2 hsz2
  go_enter Tryz.func21, Tryz.ntmps21
  go_wp2_with fail
  clear hw2 p2
  have HG0 := Lib.hid HB1.out.lt
  generalize hg : w1.heap.size = g at *
  have HG := Lib.hid hg
  clear hg
  go_loopw [9] (fun i W => ∃ (lo H : Nat) (z : Int), z + 1 = (lo : Int) ∧ fr ≤ lo ∧ lo ≤ n ∧ i = .int .i64 z ∧ Hid (Tbl W g H (g + 1) g n m lo R) ∧ Hid (H ≤ W.heap.size) ∧ Hid (Below g w1 W)) (fun i _ => (intOf i + 1).toNat)
  case atStart => exact ⟨n, g + 2, (n : Int) - 1, by omega, hfr, Nat.le_refl _, by simp, HT0, Lib.hid (by rw [HSZ2.out]; exact Nat.le_refl _), HS2⟩
  case round =>
    obtain ⟨lo, H, z, hz, hlo, hln, rfl, HT, HH, HB⟩ := hrel
    by_cases hlt : (fr : Int) ≤ z
    · obtain ⟨node, rfl⟩ : ∃ node : Nat, z = node := ⟨z.toNat, by omega⟩
      obtain rfl : lo = node + 1 := by omega
      have HW := Lib.hid (HS.out.trans (HB.out.mono (Nat.le_of_lt HG0.out)))
      obtain ⟨b, o, x, p, rfl, -, -, hxn, -, hnd, e0, e1, e2, e3, e4, e5, e6, e7, e8⟩ := (HX.out.keep (HW.out.mono HNB.out)).get (i := node) (by rw [HN.out]; omega)
      have q0 : wr.cell? ⟨w.heap.size, 0, none⟩ = some (.slice (some ⟨b, o, none⟩) n cap) := sblk (HB1.out.below HB.out HG0.out)
      have HRU := Lib.hid (HR.out node x p wr g H (g + 1) g hxn (by omega) hnd HT.out (Nat.le_of_lt HG0.out) HW.out)
      unfold standsV at HRU
      unfold vN at HRU
      have hnn : (node : Int) < (n : Int) := by omega
      have hno : (node : Int) ≤ 1048576 := by omega
      clear hxn hnd hz
      go_wp2_with fail
      refine HRU.out.mono ?_
      rintro e w3 ⟨fid, lb, rfl, hfid, hrule, hb3⟩
      have HFID := Lib.hid hfid
      have HRL := Lib.hid hrule
      have HB3 := Lib.hid hb3
      have HT3 := Lib.hid (HT.out.on hb3)
      have hc3 : w3.cell? ⟨g + 1, 0, none⟩ = some (.slice (some ⟨g, 0, none⟩) n n) := by rw [HT3.out.c.cell]; rfl
      obtain ⟨cs, hgb, hgs, -⟩ := HT3.out.rows
      obtain ⟨u0, hu0⟩ : ∃ u0, cs[node]? = some u0 := ⟨_, Array.getElem?_eq_getElem (by omega)⟩
      have hcn : w3.cell? ⟨g, node, none⟩ = some u0 := by rw [hgb.cell]; exact hu0
      have hfn := hgb.free node
      clear hfid hrule hb3 e0 e1 e2 e3 e4 e5 e6 e7 e8 q0 HRU
      have hgA := hgb.alloc (.cells (bls (List.replicate m false)) 4)
      have hcA := HT3.out.c.alloc (.cells (bls (List.replicate m false)) 4)
      have hc5 : (w3.alloc (.cells (bls (List.replicate m false)) 4)).cell? ⟨g + 1, 0, none⟩ = some (.slice (some ⟨g, 0, none⟩) n n) := by rw [hcA.cell]; rfl
      have hcn5 : (w3.alloc (.cells (bls (List.replicate m false)) 4)).cell? ⟨g, node, none⟩ = some u0 := by rw [hgA.cell]; exact hu0
      have hfn5 := hgA.free node
      go_wp2_with fail
      go_region
      have HHr : Hid (H ≤ w3.heap.size ∧ g < w3.heap.size) := Lib.hid ⟨Nat.le_trans HH.out HB3.out.size, hgb.lt⟩
      have HGW : Hid (g < wr.heap.size) := Lib.hid (by obtain ⟨c1, c2, -, -⟩ := HT.out.rows; exact c2.lt)
      have hb6 := Blk.fresh w3 4 (bls (List.replicate m false))
      have HT6 : Hid (Tbl ((w3.alloc (.cells (bls (List.replicate m false)) 4)).setCell ⟨g, node, none⟩ (.slice (some ⟨w3.heap.size, 0, none⟩) m m)).drew g H (g + 1) g n m (node + 1) R) := Lib.hid (((HT3.out.on (below_alloc w3 _)).hang _).keep fun b _ _ => rfl)
      have HC6 : Hid (((w3.alloc (.cells (bls (List.replicate m false)) 4)).setCell ⟨g, node, none⟩ (.slice (some ⟨w3.heap.size, 0, none⟩) m m)).drew.cell? ⟨g, node, none⟩ = some (.slice (some ⟨w3.heap.size, 0, none⟩) m m)) := Lib.hid (World.cell?_setCell_same _ _ _ hcn5)
      have HR6 : Hid (Blk ((w3.alloc (.cells (bls (List.replicate m false)) 4)).setCell ⟨g, node, none⟩ (.slice (some ⟨w3.heap.size, 0, none⟩) m m)).drew w3.heap.size 4 (bls (rowB m 0 (R node)))) := Lib.hid (by rw [rowB_zero]; exact hb6.far (p := ⟨g, node, none⟩) (fun e => by have h1 := hgb.lt; have h2 : w3.heap.size = g := e; omega) _)
      have HB6 : Hid (Below g w1 ((w3.alloc (.cells (bls (List.replicate m false)) 4)).setCell ⟨g, node, none⟩ (.slice (some ⟨w3.heap.size, 0, none⟩) m m)).drew) := Lib.hid (below_drawn ((((HB.out.trans (HB3.out.mono (Nat.le_of_lt HGW.out))).trans ((below_alloc w3 _).mono (Nat.le_of_lt hgb.lt)))).setCell (p := ⟨g, node, none⟩) (Nat.le_refl _) _))
      have HK6 : Hid (∀ b, wr.heap.size ≤ b → b < w3.heap.size → ((w3.alloc (.cells (bls (List.replicate m false)) 4)).setCell ⟨g, node, none⟩ (.slice (some ⟨w3.heap.size, 0, none⟩) m m)).drew.heap[b]? = w3.heap[b]?) := Lib.hid (fun b h1 h2 => by
        show ((w3.alloc (.cells (bls (List.replicate m false)) 4)).setCell ⟨g, node, none⟩ _).heap[b]? = _
        rw [Below.heap_setCell _ _ _ _ (by show b ≠ g; have := HGW.out; omega)]
        exact Below.heap_alloc w3 _ b h2)
      have HS6 : Hid (w3.heap.size < ((w3.alloc (.cells (bls (List.replicate m false)) 4)).setCell ⟨g, node, none⟩ (.slice (some ⟨w3.heap.size, 0, none⟩) m m)).drew.heap.size) := Lib.hid HR6.out.lt
      obtain ⟨r, hrr⟩ : ∃ r, w3.heap.size = r := ⟨_, rfl⟩
      have HRR := Lib.hid hrr
      rw [hrr] at HT6 HC6 HR6 HB6 HK6 HS6 HHr ⊢
      generalize ((w3.alloc (.cells (bls (List.replicate m false)) 4)).setCell ⟨g, node, none⟩ (.slice (some ⟨r, 0, none⟩) m m)).drew = w6 at *
      have HPZ := part_zero
      have hmi : (m : Int) ≤ 1000000000 := by omega
      clear hc3 hgb hgs hu0 hcn hfn hgA hcA hc5 hcn5 hfn5 hb6 hrr HT3
      generalize wr = wo at *
      go_wp2_with fail
      go_loopw [42] (fun i W => ∃ a : Nat, (a : Int) ≤ (m : Int) ∧ i = .int .i64 (a : Int) ∧ Hid (Tbl W g H (g + 1) g n m (node + 1) R) ∧ Hid (W.cell? ⟨g, node, none⟩ = some (.slice (some ⟨r, 0, none⟩) m m)) ∧ Hid (Blk W r 4 (bls (rowB m a (R node)))) ∧ Hid (Below g w1 W) ∧ Hid (∀ b, wo.heap.size ≤ b → b < r → W.heap[b]? = w3.heap[b]?) ∧ Hid (r < W.heap.size)) (fun i _ => m - (intOf i).toNat)
      case atStart => exact ⟨0, by omega, rfl, HT6, HC6, HR6, HB6, HK6, HS6⟩
      case round =>
        clear HT6 HC6 HR6 HB6 HK6 HS6
        obtain ⟨a, ha, rfl, HT7, HC7, HR7, HB7, HK7, HS7⟩ := hrel
        by_cases ham : (a : Int) < (m : Int)
        · obtain ⟨pt, hpt⟩ : ∃ pt, ps[a]? = some pt := ⟨_, List.getElem?_eq_getElem (by have := HM.out; omega)⟩
          have HW7 := Lib.hid (HS.out.trans (HB7.out.mono (Nat.le_of_lt HG0.out)))
          obtain ⟨c0, c1, c2, c3, c4, -⟩ := (HP.out.on HW7.out).at_ hpt
          have b0 : Blk (wr.alloc (.cells #[.int .i64 0, .int .u64 0, .string ⟨#[]⟩, .slice none 0 0, .int .i64 0] 77)) wr.heap.size 77 #[.int .i64 0, .int .u64 0, .string ⟨#[]⟩, .slice none 0 0, .int .i64 0] := Blk.fresh _ _ _
          have S0 := below_alloc wr (.cells #[.int .i64 0, .int .u64 0, .string ⟨#[]⟩, .slice none 0 0, .int .i64 0] 77)
          obtain ⟨wZ, hwZ⟩ : ∃ wZ, wr.alloc (.cells #[.int .i64 0, .int .u64 0, .string ⟨#[]⟩, .slice none 0 0, .int .i64 0] 77) = wZ := ⟨_, rfl⟩
          rw [hwZ] at b0 S0
          have hst0 := run_store_all (P := Tryz.prog) (ty := 77) (c' := #[.int .i64 pt.x.k, .int .u64 pt.x.n, .string pt.x.s, .slice pt.A pt.x.l.length pt.cap, .int .i64 pt.it]) b0 part_info rfl (by simp [Value.oneCell'])
          have b8 := b0.setRow #[.int .i64 pt.x.k, .int .u64 pt.x.n, .string pt.x.s, .slice pt.A pt.x.l.length pt.cap, .int .i64 pt.it]
          have S8 := below_row S0 (Nat.le_refl _) #[.int .i64 pt.x.k, .int .u64 pt.x.n, .string pt.x.s, .slice pt.A pt.x.l.length pt.cap, .int .i64 pt.it]
          generalize wZ.setRow wr.heap.size #[.int .i64 pt.x.k, .int .u64 pt.x.n, .string pt.x.s, .slice pt.A pt.x.l.length pt.cap, .int .i64 pt.it] = w8 at *
          have HST0 := Lib.hid hst0
          have HT8 := Lib.hid (HT7.out.on S8)
          have HC8 : Hid (w8.cell? ⟨g, node, none⟩ = some (.slice (some ⟨r, 0, none⟩) m m)) := Lib.hid ((S8.cell (p := ⟨g, node, none⟩) (block_lt_of_cell HC7.out)).trans HC7.out)
          have HR8 := Lib.hid (HR7.out.on S8)
          have HB8 := Lib.hid (HB7.out.trans (S8.mono (by have h1 := HS7.out; have h2 := HHr.out.2; omega)))
          have HCL : Hid (∀ W2, Below w8.heap.size w8 W2 → Calls Tryz.prog fid (#[vP pt, .int .i64 (a : Int)] ++ lb) W2 fun e W3 => e = .returned (.bool (R node a)) ∧ Below W2.heap.size W2 W3) := Lib.hid (fun W2 hW => HRL.out.call W2 H a pt hpt (HT8.out.on hW) (HS.out.trans ((HB8.out.trans (hW.mono (by have h1 := HS7.out; have h2 := HHr.out.2; have h3 := S8.size; omega))).mono (Nat.le_of_lt HG0.out))) (fun b h1 h2 => by
            have h3 := HS7.out
            have h4 := S8.size
            rw [hW.block b (by have := HRR.out; omega), S8.block b (by have := HRR.out; omega)]
            exact HK7.out b h1 (by have := HRR.out; omega)))
          unfold vP at HCL
          have f0 := b8.cell 0
          have f1 := b8.cell 1
          have f2 := b8.cell 2
          have f3 := b8.cell 3
          have f4 := b8.cell 4
          have g0 : w8.cell? ⟨g + 1, 0, none⟩ = some (.slice (some ⟨g, 0, none⟩) n n) := by rw [HT8.out.c.cell]; rfl
          have g1 := HC8.out
          have g2 : w8.cell? ⟨r, a, none⟩ = some (.bool false) := by rw [HR8.out.cell, rowB_at _ (by omega), if_neg (by omega)]
          have g3 := HR8.out.free a
          have HPB := Lib.hid b8
          have HK8 : Hid (∀ b, wo.heap.size ≤ b → b < r → w8.heap[b]? = w3.heap[b]?) := Lib.hid (fun b h1 h2 => (S8.block b (by have := HS7.out; omega)).trans (HK7.out b h1 h2))
          have HS8 : Hid (r < w8.heap.size) := Lib.hid (Nat.lt_of_lt_of_le HS7.out S8.size)
          have HD := Lib.hid (show Below w8.heap.size w8 w8.drew from (Below.refl _ _).drew)
          have hfol : Tryz.prog.follows Departure.mixedOrders = true := by kernel_rfl
          have e1 : wrap64 ((a : Int) + 1) = (a : Int) + 1 := by unfold wrap64; omega
          clear b0 S0 hst0 b8 S8 HT7 HC7 HR7 HB7 HK7 HS7 hpt
          go_wp2_with (first
            | ((with_reducible refine is_store 77 rfl ?_); (with_reducible refine wpList_store_run rfl rfl HST0.out ?_ ?_ ?_); (· rfl); (· rfl))
            | fail)
          clear HST0
          rcases HFID.out with rfl | rfl | rfl
          all_goals go_region_with ((first | go_at_call 61 | go_at_call 58 | go_at_call 76); (refine (HCL.out _ HD.out).mono ?_); rintro e w9 ⟨rfl, hb⟩; have hb9 := HD.out.trans hb; have y0 := (HPB.out.on hb9).cell 0; have y1 := (HPB.out.on hb9).cell 1; have y2 := (HPB.out.on hb9).cell 2; have y3 := (HPB.out.on hb9).cell 3; have y4 := (HPB.out.on hb9).cell 4; have z0 := (HT8.out.on hb9).c.cell 0; have z1 := (hb9.cell (p := ⟨g, node, none⟩) (block_lt_of_cell HC8.out)).trans HC8.out; have z2 := (hb9.cell (p := ⟨r, a, none⟩) (block_lt_of_cell g2)).trans g2; have z3 := (HR8.out.on hb9).free a; have HB9 := Lib.hid hb9; clear hb hb9)
          all_goals
            have HTF : Hid (Tbl (w9.setCell ⟨r, a, none⟩ (.bool (R node a))) g H (g + 1) g n m (node + 1) R) := Lib.hid ((HT8.out.on HB9.out).keep fun b h1 _ => Below.heap_setCell _ _ _ _ (by show b ≠ r; have := HHr.out.1; omega))
            have HCF : Hid ((w9.setCell ⟨r, a, none⟩ (.bool (R node a))).cell? ⟨g, node, none⟩ = some (.slice (some ⟨r, 0, none⟩) m m)) := Lib.hid ((World.cell?_setCell_other _ _ _ _ (fun e => by injection e with e; have := HHr.out.2; omega)).trans z1)
            have HRF : Hid (Blk (w9.setCell ⟨r, a, none⟩ (.bool (R node a))) r 4 (bls (rowB m (a + 1) (R node)))) := Lib.hid (by
              have := (HR8.out.on HB9.out).put a (.bool (R node a))
              rwa [bls_put, rowB_set _ (by omega)] at this)
            have HBF : Hid (Below g w1 (w9.setCell ⟨r, a, none⟩ (.bool (R node a)))) := Lib.hid ((HB8.out.trans (HB9.out.mono (by have h1 := HS8.out; have h2 := HHr.out.2; omega))).setCell (p := ⟨r, a, none⟩) (Nat.le_of_lt HHr.out.2) _)
            have HKF : Hid (∀ b, wo.heap.size ≤ b → b < r → (w9.setCell ⟨r, a, none⟩ (.bool (R node a))).heap[b]? = w3.heap[b]?) := Lib.hid (fun b h1 h2 => (Below.heap_setCell _ _ _ _ (by show b ≠ r; omega)).trans ((HB9.out.block b (by have := HS8.out; omega)).trans (HK8.out b h1 h2)))
            have HSF : Hid (r < (w9.setCell ⟨r, a, none⟩ (.bool (R node a))).heap.size) := Lib.hid HRF.out.lt
            clear y0 y1 y2 y3 y4 z0 z1 z2 z3 f0 f1 f2 f3 f4 g0 g1 g2 g3 c0 c1 c2 c3 c4
            generalize w9.setCell ⟨r, a, none⟩ (.bool (R node a)) = wf at *
            go_wp2_with fail
            go_roundw
            case rel => exact ⟨a + 1, by omega, by simp, HTF, HCF, HRF, HBF, HKF, HSF⟩
            case measure => simp [intOf]; omega
        · obtain rfl : a = m := by omega
          have hnode : node < n := by omega
          have HTN := Lib.hid (HT7.out.done hnode HC7.out HR7.out (Nat.le_of_lt HHr.out.2) HHr.out.1)
          have hzz : ((node : Int) - 1) + 1 = ((node : Nat) : Int) := by omega
          have hlo2 : fr ≤ node := by omega
          have hln2 : node ≤ n := by omega
          go_wp2_with fail
          go_roundw
          case rel => exact ⟨node, r + 1, (node : Int) - 1, hzz, hlo2, hln2, rfl, HTN, Lib.hid HS7.out, HB7⟩
          case measure => simp [intOf]
    · obtain rfl : lo = fr := by omega
      go_wp2_with fail
      go_ret
      have HTL : Hid (Tbl wr w.heap.size H (g + 1) g n m lo R) := Lib.hid (by
        have h := HT.out
        have h0 := HG0.out
        obtain ⟨cs, h1, h2, h3⟩ := h.rows
        exact ⟨h.c, ⟨by omega, h.cb.2⟩, ⟨by omega, h.gb.2⟩, cs, h1, h2, fun i hi hn => by
          obtain ⟨r, q1, q2, q3, q4⟩ := h3 i hi hn
          exact ⟨r, q1, q2, by omega, q4⟩⟩)
      exact ⟨g + 1, rfl, ⟨g, H, HTL.out⟩, HS.out.trans (HB.out.mono (Nat.le_of_lt HG0.out))⟩
end Go.Proofs.YtjelgoeamaejmaaGreat
