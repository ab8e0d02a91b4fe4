
/- Package head: First. -/
import Derived.Test.YtimmgajeflghlaaHeadD
import Derived.Test.YtimmgajeflghlaaHeadE
import Derived.Test.YtimmgajeflghlaaResults
namespace Go.Proofs.Ytimmgajeflghlaa
open Go.RowKit

def hfirstV (r : HR) : Value := if r.e = 0 then .tuple #[.agg (h3cells r.major r.width r.arg), .int .i64 r.many, .int .i64 0] else .tuple #[.agg (h3cells 0 0 0), .int .i64 r.place, .int .i64 r.e]
set_option maxHeartbeats 1000000 in
set_option maxRecDepth 100000 in
theorem head_First (w : World) (A : Option Addr) (cap : Nat) (L : List Int) (hr : Rd w w.heap.size .u8 A L) (hb : ByteL L) (hl : L.length ≤ 1000000000) :
    Calls Try.prog 7 #[.slice A L.length cap] w fun e w' => e = .returned (hfirstV (hread L)) ∧ Below w.heap.size w w' := by
  have HZ := h3_zero
  have HQ0 := hq_zero
  have b1 : Blk (w.alloc (.cells (h3cells 0 0 0) 26)) w.heap.size 26 (h3cells 0 0 0) := Blk.fresh _ _ _
  have s1 : Below w.heap.size w (w.alloc (.cells (h3cells 0 0 0) 26)) := below_alloc _ _
  have z1 : (w.alloc (.cells (h3cells 0 0 0) 26)).heap.size = w.heap.size + 1 := by simp
  obtain ⟨w1, hw1⟩ : ∃ w1, w.alloc (.cells (h3cells 0 0 0) 26) = w1 := ⟨_, rfl⟩
  rw [hw1] at b1 s1 z1
  have b2 : Blk (w1.alloc (.cells (hcells hq0) 43)) (w.heap.size + 1) 43 (hcells hq0) := Blk.freshAt _ _ _ _ z1.symm
  have a2 := b1.alloc (.cells (hcells hq0) 43)
  have s2 := s1.alloc (by omega) (.cells (hcells hq0) 43)
  obtain ⟨w2, hw2⟩ : ∃ w2, w1.alloc (.cells (hcells hq0) 43) = w2 := ⟨_, rfl⟩
  rw [hw2] at b2 a2 s2
  have hr2 := hr.below s2
  have HB2 := Lib.hid b2
  have HA2 := Lib.hid a2
  have HS2 := Lib.hid s2
  clear b1 b2 a2 s1 s2 hr
  obtain ⟨C0, hC0⟩ : ∃ C, hcells hq0 = C := ⟨_, rfl⟩
  rw [hC0] at hw2 HQ0 HB2
  have HC0 := Lib.hid hC0
  clear hC0
  go_enter Try.func7, Try.ntmps7
  go_wp2_with fail
  clear hw1 hw2 HZ HQ0
  go_loopw [12] (fun i wr => ∃ (k : Nat) (q : HQ), k ≤ L.length ∧ i = .int .i64 k ∧ HSt L k q ∧ Blk wr (w.heap.size + 1) 43 (hcells q) ∧ Only (w.heap.size + 1) w2 wr) (fun i _ => L.length - (intOf i).toNat)
  case atStart => exact ⟨0, hq0, Nat.zero_le _, rfl, Or.inl ⟨rfl, rfl⟩, by rw [HC0.out]; exact HB2.out, Only.refl _ _⟩
  case round =>
    obtain ⟨k, q, hk, rfl, hst, hbk, ho⟩ := hrel
    have ha := HA2.out.only ho (by omega)
    have hs := HS2.out.trans (ho.below (by omega) HS2.out.size)
    have hrr := hr2.below (ho.below (by omega) HS2.out.size)
    by_cases hlt : k < L.length
    · obtain ⟨b, o, rfl, hbb, hc⟩ := hrr.get hlt
      have hc0 := (hb.get k).1
      have hc1 := (hb.get k).2
      have hN := hst.step hlt
      obtain ⟨hok, hleft⟩ := hst.ok
      have HT := Lib.hid (head_Step (L.getD k 0) hc0 hc1 q hok hleft wr _ hbk)
      generalize hdone q (L.getD k 0) = dn at *
      generalize herr q (L.getD k 0) = er at *
      generalize hstep q (L.getD k 0) = q' at *
      generalize L.getD k 0 = c at *
      have HA := Lib.hid ha
      have HSS := Lib.hid hs
      have HO := Lib.hid ho
      clear ha hs hrr hst hbk hok hleft ho
      cases hN with
      | bad _ _ he hR =>
        have he' : (er == 0) = false := by simp [he]
        have HR : Hid (hfirstV (hread L) = .tuple #[.agg (h3cells 0 0 0), .int .i64 k, .int .i64 er]) := Lib.hid (by rw [hR]; unfold hfirstV hnone; rw [if_neg he])
        go_wp2_with fail
        refine HT.out.mono ?_
        rintro e w3 ⟨rfl, b3, o3⟩
        have a3 := HA.out.only o3 (by omega)
        have HS := Lib.hid (run_store_all (P := Try.prog) (ty := 26) (c' := h3cells 0 0 0) a3 (by kernel_rfl) rfl (h3_one _ _ _))
        have b4 := Lib.hid (a3.setRow (h3cells 0 0 0))
        have s4 := Lib.hid (below_row (HSS.out.trans (o3.below (by omega) HSS.out.size)) (Nat.le_refl _) (h3cells 0 0 0))
        clear a3 b3 o3 HT hR hc
        go_wp2_with ((with_reducible refine is_store 26 rfl ?_); (with_reducible refine wpList_store_run rfl rfl HS.out ?_ ?_ ?_); (· rfl); (· rfl))
        (try simp only [Exit.inBlock, Exit.then])
        refine bodyPost_ret (results_blk3 rfl _ rfl b4.out Try.underlying26 rfl hinfo_head) rfl ⟨by rw [HR.out]; rfl, s4.out⟩
      | long _ hR he =>
        have HR : Hid (hfirstV (hread L) = .tuple #[.agg (h3cells 0 0 0), .int .i64 k, .int .i64 5]) := Lib.hid (by unfold hfirstV; rw [hR, he, if_neg (by decide)])
        go_wp2_with fail
        refine HT.out.mono ?_
        rintro e w3 ⟨rfl, b3, o3⟩
        have a3 := HA.out.only o3 (by omega)
        have HS := Lib.hid (run_store_all (P := Try.prog) (ty := 26) (c' := h3cells 0 0 0) a3 (by kernel_rfl) rfl (h3_one _ _ _))
        have b4 := Lib.hid (a3.setRow (h3cells 0 0 0))
        have s4 := Lib.hid (below_row (HSS.out.trans (o3.below (by omega) HSS.out.size)) (Nat.le_refl _) (h3cells 0 0 0))
        clear a3 b3 o3 HT hR hc
        go_wp2_with ((with_reducible refine is_store 26 rfl ?_); (with_reducible refine wpList_store_run rfl rfl HS.out ?_ ?_ ?_); (· rfl); (· rfl))
        (try simp only [Exit.inBlock, Exit.then])
        refine bodyPost_ret (results_blk3 rfl _ rfl b4.out Try.underlying26 rfl hinfo_head) rfl ⟨by rw [HR.out]; rfl, s4.out⟩
      | whole _ hR hop =>
        have HR : Hid (hfirstV (hread L) = .tuple #[.agg (h3cells q'.major q'.width q'.arg), .int .i64 ((k : Int) + 1), .int .i64 0]) := Lib.hid (by rw [hR]; rfl)
        go_wp2_with fail
        refine HT.out.mono ?_
        rintro e w3 ⟨rfl, b3, o3⟩
        have HH := Lib.hid (head_Head_done q' hop w3 _ b3)
        have a3 := HA.out.only o3 (by omega)
        have S3 := Lib.hid (HSS.out.trans (o3.below (by omega) HSS.out.size))
        have A3 := Lib.hid a3
        clear b3 o3 HT hR hc a3
        go_wp2_with fail
        refine HH.out.mono ?_
        rintro e w4 ⟨rfl, s4'⟩
        have a4 := A3.out.on s4'
        have HS := Lib.hid (run_store_all (P := Try.prog) (ty := 26) (c' := h3cells q'.major q'.width q'.arg) a4 (by kernel_rfl) rfl (h3_one _ _ _))
        have b4 := Lib.hid (a4.setRow (h3cells q'.major q'.width q'.arg))
        have s4 := Lib.hid (below_row (S3.out.trans (s4'.mono S3.out.size)) (Nat.le_refl _) (h3cells q'.major q'.width q'.arg))
        clear a4 s4' hop HH
        go_wp2_with ((with_reducible refine is_store 26 rfl ?_); (with_reducible refine wpList_store_run rfl rfl HS.out ?_ ?_ ?_); (· rfl); (· rfl))
        (try simp only [Exit.inBlock, Exit.then])
        refine bodyPost_ret (results_blk3 rfl _ rfl b4.out Try.underlying26 rfl hinfo_head) rfl ⟨by rw [HR.out]; rfl, s4.out⟩
      | more _ hst' =>
        go_wp2_with fail
        refine HT.out.mono ?_
        rintro e w3 ⟨rfl, b3, o3⟩
        have HB3 := Lib.hid b3
        have HO3 := Lib.hid (HO.out.trans o3)
        clear b3 o3 HT hc
        go_wp2_with fail
        go_roundw
        case rel => exact ⟨k + 1, q', by omega, by go_num, hst', HB3.out, HO3.out⟩
        case measure => simp [intOf]; omega
    · have hk' : k = L.length := by omega
      subst hk'
      have HR : Hid (hfirstV (hread L) = .tuple #[.agg (h3cells 0 0 0), .int .i64 (L.length : Int), .int .i64 9]) := Lib.hid (by rw [hst.last]; rfl)
      have HS := Lib.hid (run_store_all (P := Try.prog) (ty := 26) (c' := h3cells 0 0 0) ha (by kernel_rfl) rfl (h3_one _ _ _))
      have b4 := Lib.hid (ha.setRow (h3cells 0 0 0))
      have s4 := Lib.hid (below_row hs (Nat.le_refl _) (h3cells 0 0 0))
      clear ha hs hrr hst hbk ho
      go_wp2_with ((with_reducible refine is_store 26 rfl ?_); (with_reducible refine wpList_store_run rfl rfl HS.out ?_ ?_ ?_); (· rfl); (· rfl))
      (try simp only [Exit.inBlock, Exit.then])
      refine bodyPost_ret (results_blk3 rfl _ rfl b4.out Try.underlying26 rfl hinfo_head) rfl ⟨by rw [HR.out]; rfl, s4.out⟩
end Go.Proofs.Ytimmgajeflghlaa
