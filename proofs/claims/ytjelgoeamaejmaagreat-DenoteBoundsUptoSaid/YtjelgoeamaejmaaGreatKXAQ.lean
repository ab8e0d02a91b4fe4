/- The document's example of layer 18, as the laws run it. -/
import Derived.Test.YtjelgoeamaejmaaGreatKXAP
namespace Go.Proofs.YtjelgoeamaejmaaGreat
open Go.RowKit

def mk8 (key : ByteArray) : Array Value := #[.int .i64 3, .int .u64 0, .string key, .slice none 0 0, .int .i64 0, .int .u64 1, .string ⟨#[]⟩, .slice none 0 0]
theorem mk_at {w : World} {b : Nat} (key : ByteArray) (h : Blk w b 28 (mk8 key)) : AtB w w.heap.size (mkI key) (some ⟨b, 0, none⟩) 2 := by
  have hc : ∀ i, w.cell? ⟨b, i, none⟩ = (mk8 key)[i]? := h.cell
  refine ⟨by rw [mkI_len]; exact Nat.le_refl _, (fun e => by cases e), ?_⟩
  have hl : (mkI key).l = [keyI key, oneI] := by simp [mkI, It.l]
  rw [hl]
  refine AtL.mk h.lt h.lt (At1.mk none 0 ?_ ?_ ?_ ?_ ?_ (fun _ => rfl) ?_) (AtL.mk h.lt h.lt (At1.mk none 0 ?_ ?_ ?_ ?_ ?_ (fun _ => rfl) ?_) (AtL.nil _))
  · rw [hc]; simp [keyI, It.k, mk8]
  · rw [hc]; simp [keyI, It.n, mk8]
  · rw [hc]; simp [keyI, It.s, mk8]
  · rw [hc]; simp [keyI, It.l, mk8]
  · simp [keyI, It.l]
  · simp only [keyI, It.l]; exact AtL.nil _
  · rw [hc]; simp [oneI, It.k, mk8]
  · rw [hc]; simp [oneI, It.n, mk8]
  · rw [hc]; simp [oneI, It.s, mk8]
  · rw [hc]; simp [oneI, It.l, mk8]
  · simp [oneI, It.l]
  · simp only [oneI, It.l]; exact AtL.nil _
def MkPost (key : ByteArray) (w : World) (e : Ending) (w' : World) : Prop := ∃ b, e = .returned (vI (mkI key) (some ⟨b, 0, none⟩) 2) ∧ AtB w' w'.heap.size (mkI key) (some ⟨b, 0, none⟩) 2 ∧ Below w.heap.size w w'
set_option maxRecDepth 100000 in
theorem den_mk (key : ByteArray) (w : World) : Calls Tryz.prog 17 #[.string key] w fun e w' => MkPost key w e w' := by
  obtain ⟨w1, hw1, b1, S⟩ := iblk1 w 28 #[.int .i64 0, .int .u64 0, .string ⟨#[]⟩, .slice none 0 0]
  have b2 := Blk.fresh w1 28 (mk8 key)
  have b1' := b1.alloc (.cells (mk8 key) 28)
  have S2 : Below w.heap.size w (w1.alloc (.cells (mk8 key) 28)) := S.alloc S.size _
  obtain ⟨w2, hw2⟩ : ∃ w2, w1.alloc (.cells (mk8 key) 28) = w2 := ⟨_, rfl⟩
  rw [hw2] at b2 b1' S2
  have hst := run_store_all (P := Tryz.prog) (ty := 28) (c' := #[.int .i64 5, .int .u64 0, .string ⟨#[]⟩, .slice (some ⟨w1.heap.size, 0, none⟩) 2 2]) b1' item_info4 rfl (by simp [Value.oneCell'])
  have b3 := b1'.setRow #[.int .i64 5, .int .u64 0, .string ⟨#[]⟩, .slice (some ⟨w1.heap.size, 0, none⟩) 2 2]
  have b4 := b2.farRow (i := w.heap.size) (by have := b1.lt; omega) #[.int .i64 5, .int .u64 0, .string ⟨#[]⟩, .slice (some ⟨w1.heap.size, 0, none⟩) 2 2]
  have S3 := below_row S2 (Nat.le_refl _) #[.int .i64 5, .int .u64 0, .string ⟨#[]⟩, .slice (some ⟨w1.heap.size, 0, none⟩) 2 2]
  generalize w2.setRow w.heap.size #[.int .i64 5, .int .u64 0, .string ⟨#[]⟩, .slice (some ⟨w1.heap.size, 0, none⟩) 2 2] = w3 at *
  have HST := Lib.hid hst
  have HB3 := Lib.hid b3
  have HA := Lib.hid (mk_at key b4)
  have HS := Lib.hid S3
  have HZI := item_zero4
  unfold mk8 at hw2
  clear b1 S b2 b1' S2 hst b3 b4 S3
  go_enter Tryz.func17, Tryz.ntmps17
  go_wp2_with (first
    | ((with_reducible refine is_store 28 rfl ?_); (with_reducible refine wpList_store_run rfl rfl HST.out ?_ ?_ ?_); (· rfl); (· rfl))
    | fail)
  refine bodyPost_ret (results_blk rfl _ rfl HB3.out Tryz.underlying28 rfl item_info4) rfl ?_
  exact ⟨w1.heap.size, by unfold vI; rw [mkI_len]; simp [mkI, It.k, It.n, It.s], HA.out, HS.out⟩
def aw18f : Array Value := #[.string ⟨#[97]⟩, .int .i64 1, .bool false, .string ⟨#[98]⟩, .int .i64 1, .bool true]
def aw18n : Nat → Array Value := fun g => #[.int .i64 8, .int .i64 0, .int .i64 0, .int .i64 0, .int .u64 0, .string ⟨#[]⟩, .slice none 0 0, .slice none 0 0, .slice (some ⟨g, 0, none⟩) 2 2,
  .int .i64 1, .int .i64 0, .int .i64 5, .int .i64 0, .int .u64 0, .string ⟨#[]⟩, .slice none 0 0, .slice none 0 0, .slice none 0 0]
theorem aw18_at (w : World) : ∃ w1, ((w.alloc (.cells aw18f 53)).alloc (.cells (aw18n w.heap.size) 47)).alloc (.cells #[.slice (some ⟨w.heap.size + 1, 0, none⟩) 2 2] 24) = w1 ∧ RdN w1 w1.heap.size (some ⟨w.heap.size + 1, 0, none⟩) aw18 ∧ Blk w1 (w.heap.size + 2) 24 #[.slice (some ⟨w.heap.size + 1, 0, none⟩) 2 2] ∧ Below w.heap.size w w1 := by
  refine ⟨_, rfl, ?_, Blk.freshAt _ _ _ _ (by simp), ((below_alloc w _).alloc (by simp) _).alloc (by simp; omega) _⟩
  have b0 := ((Blk.fresh w 53 aw18f).alloc (.cells (aw18n w.heap.size) 47)).alloc (.cells #[.slice (some ⟨w.heap.size + 1, 0, none⟩) 2 2] 24)
  have b1 := (Blk.freshAt (w.alloc (.cells aw18f 53)) 47 (aw18n w.heap.size) (w.heap.size + 1) (by simp)).alloc (.cells #[.slice (some ⟨w.heap.size + 1, 0, none⟩) 2 2] 24)
  intro _
  refine ⟨w.heap.size + 1, 0, rfl, b1.lt, b1.lt, fun i x hx => ?_⟩
  have hi := (List.getElem?_eq_some_iff.1 hx).1
  rcases (by simp [aw18] at hi; omega : i = 0 ∨ i = 1) with rfl | rfl
  · obtain rfl : (⟨8, 0, 0, zIt, [], fs18⟩ : Nd) = x := by injection hx
    refine ⟨⟨none, 0, none, 0, some ⟨w.heap.size, 0, none⟩, 2⟩, ⟨zIt_at _ _, (fun h => absurd h (by simp)), Nat.le_refl _, (fun _ => rfl), ?_, Nat.le_refl _, fun h => by cases h⟩, fun j u hu => ?_⟩
    · intro _
      refine ⟨w.heap.size, 0, rfl, b0.lt, b0.lt, fun i x hx => ?_⟩
      have hi := (List.getElem?_eq_some_iff.1 hx).1
      rcases (by simp [fs18] at hi; omega : i = 0 ∨ i = 1) with rfl | rfl
      · obtain rfl : fa18 = x := by injection hx
        exact ⟨by rw [b0.cell]; rfl, by rw [b0.cell]; rfl, by rw [b0.cell]; rfl⟩
      · obtain rfl : fb18 = x := by injection hx
        exact ⟨by rw [b0.cell]; rfl, by rw [b0.cell]; rfl, by rw [b0.cell]; rfl⟩
    · rw [b1.cell]
      have hj := (Array.getElem?_eq_some_iff.1 hu).1
      simp [nc] at hj
      rcases (by omega : j = 0 ∨ j = 1 ∨ j = 2 ∨ j = 3 ∨ j = 4 ∨ j = 5 ∨ j = 6 ∨ j = 7 ∨ j = 8) with rfl | rfl | rfl | rfl | rfl | rfl | rfl | rfl | rfl <;> exact hu
  · obtain rfl : (⟨1, 0, 5, zIt, [], []⟩ : Nd) = x := by injection hx
    refine ⟨⟨none, 0, none, 0, none, 0⟩, ⟨zIt_at _ _, (fun h => absurd h (by simp)), Nat.le_refl _, (fun _ => rfl), RdF.nil, Nat.le_refl _, fun _ => rfl⟩, fun j u hu => ?_⟩
    rw [b1.cell]
    have hj := (Array.getElem?_eq_some_iff.1 hu).1
    simp [nc] at hj
    rcases (by omega : j = 0 ∨ j = 1 ∨ j = 2 ∨ j = 3 ∨ j = 4 ∨ j = 5 ∨ j = 6 ∨ j = 7 ∨ j = 8) with rfl | rfl | rfl | rfl | rfl | rfl | rfl | rfl | rfl <;> exact hu
theorem den_ex {key : ByteArray} {f : Fl} (A : Option Addr) (b : Nat) (w : World) (hx : RdN w w.heap.size A aw18) (hi : AtB w w.heap.size (mkI key) (some ⟨b, 0, none⟩) 2) (hk : key.size ≤ 1048576) (hu : uok uq0 (sbytes key) = true) (hf : fM fs18 key = some f) :
    Calls Tryz.prog 8 #[vS A aw18 2, vI (mkI key) (some ⟨b, 0, none⟩) 2] w fun e w' => e = .returned (.tuple #[.bool (!f.opt), .int .i64 0]) ∧ Below w.heap.size w w' := by
  refine (den_Schema aw18 A 2 (mkI key) (some ⟨b, 0, none⟩) 2 w.heap.size R18 w (Nat.le_refl _) hx aw18_ok (by decide) aw18_check hi (mkI_ok key hk) (mkI_check key hu) (by decide) (rules18 key hk)).mono ?_
  rintro e w' ⟨⟨ps, hsp, rfl⟩, hb⟩
  exact ⟨by rw [val18 hsp hf], hb⟩
set_option maxRecDepth 100000 in
set_option maxHeartbeats 4000000 in
theorem den_awake (w : World) : Calls Tryz.prog 6 #[] w fun e w' => e = .returned (.bool true) ∧ Below w.heap.size w w' := by
  obtain ⟨w1, hw1, hx, bx, S⟩ := aw18_at w
  have HX := Lib.hid (fun W (hW : Below w1.heap.size w1 W) => (hx.keep hW).more hW.size)
  have HMA := Lib.hid (fun W => den_mk ⟨#[97]⟩ W)
  have HMB := Lib.hid (fun W => den_mk ⟨#[98]⟩ W)
  have HEA := Lib.hid (fun W (hW : Below w1.heap.size w1 W) (b : Nat) (h : AtB W W.heap.size (mkI ⟨#[97]⟩) (some ⟨b, 0, none⟩) 2) => den_ex (f := fa18) (some ⟨w.heap.size + 1, 0, none⟩) b W (HX.out W hW) h (by decide) (by decide) fM18_a)
  have HEB := Lib.hid (fun W (hW : Below w1.heap.size w1 W) (b : Nat) (h : AtB W W.heap.size (mkI ⟨#[98]⟩) (some ⟨b, 0, none⟩) 2) => den_ex (f := fb18) (some ⟨w.heap.size + 1, 0, none⟩) b W (HX.out W hW) h (by decide) (by decide) fM18_b)
  have HBX := Lib.hid bx
  have HS := Lib.hid S
  have c0 : w1.cell? ⟨w.heap.size + 1 + 1, 0, none⟩ = some (.slice (some ⟨w.heap.size + 1, 0, none⟩) 2 2) := sblk bx
  unfold vS at HEA HEB
  simp only [show aw18.length = 2 from rfl, show (!fa18.opt) = true from rfl, show (!fb18.opt) = false from rfl] at HEA HEB
  unfold aw18f aw18n at hw1
  clear hx bx S
  go_enter Tryz.func6, Tryz.ntmps6
  go_wp2_with fail
  have hfol : Tryz.prog.follows Departure.mixedOrders = true := by kernel_rfl
  have HD := Lib.hid (show Below w1.heap.size w1 w1.drew from (Below.refl _ _).drew)
  clear hw1
  go_region_with (first
    | (go_at_call 17; refine (HMA.out _).mono ?_; rintro e w3 ⟨b, rfl, hat, hb⟩; have HAT := Lib.hid hat; have HB3 := Lib.hid (HD.out.trans hb); have c3 : w3.cell? ⟨w.heap.size + 1 + 1, 0, none⟩ = some (.slice (some ⟨w.heap.size + 1, 0, none⟩) 2 2) := sblk (HBX.out.on HB3.out); clear hat hb)
    | (go_at_call 8; refine (HEA.out _ HB3.out b HAT.out).mono ?_; rintro e w4 ⟨rfl, hb⟩; have HB4 := Lib.hid (HB3.out.trans (hb.mono HB3.out.size)); have c4 : w4.cell? ⟨w.heap.size + 1 + 1, 0, none⟩ = some (.slice (some ⟨w.heap.size + 1, 0, none⟩) 2 2) := sblk (HBX.out.on HB4.out); clear hb)
    | fail)
  all_goals
    clear c0 c3 HD
    have HD := Lib.hid (show Below w4.heap.size w4 w4.drew from (Below.refl _ _).drew)
    go_wp2_with fail
    go_region_with (first
      | (go_at_call 17; refine (HMB.out _).mono ?_; rintro e w5 ⟨b', rfl, hat, hb⟩; have HAT5 := Lib.hid hat; have HB5 := Lib.hid (HB4.out.trans ((HD.out.trans hb).mono HB4.out.size)); have c5 : w5.cell? ⟨w.heap.size + 1 + 1, 0, none⟩ = some (.slice (some ⟨w.heap.size + 1, 0, none⟩) 2 2) := sblk (HBX.out.on HB5.out); clear hat hb)
      | (go_at_call 8; refine (HEB.out _ HB5.out b' HAT5.out).mono ?_; rintro e w6 ⟨rfl, hb⟩; have HB6 := Lib.hid (HB5.out.trans (hb.mono HB5.out.size)); clear hb)
      | fail)
    all_goals
      clear c4 c5
      go_wp2_with fail
      go_ret
      exact ⟨rfl, HS.out.trans (HB6.out.mono HS.out.size)⟩
end Go.Proofs.YtjelgoeamaejmaaGreat
