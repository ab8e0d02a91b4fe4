/- The document's item of right bytes (layer 15). -/
import Derived.Test.YtchhbcmkhbfpoaaKAV
namespace Go.Proofs.Ytchhbcmkhbfpoaa
open Go.RowKit

/-- What the document's Item answers. -/
def RefP (x : It) (e : Nat) (w : World) (r : Ending) (w' : World) : Prop :=
  ∃ Ax cx, r = .returned (.tuple #[vI x Ax cx, .int .i64 (e : Int)]) ∧ AtS w' (fun b => w.heap.size ≤ b) x Ax cx ∧ Below w.heap.size w w'
def RefC (L : List Int) (item : Nat → Option (It × Nat)) : Prop :=
  ∀ (a : Nat) (x : It) (e : Nat) (w : World) (A : Option Addr) (cap : Nat), item a = some (x, e) → Rd w w.heap.size .u8 A L → L.length ≤ cap →
    Calls Try.prog 19 #[.slice A L.length cap, .int .i64 (a : Int)] w fun r w' => RefP x e w r w'
set_option maxRecDepth 4000 in
set_option maxHeartbeats 4000000 in
theorem ref_Item15 (L : List Int) (hb : ByteL L) (hl : L.length ≤ 300) (f : Nat) : RefC L (prs L f) := by
  induction f with
  | zero => intro a x e w A cap h; cases h
  | succ f ih =>
    intro a x e w A cap h hr hcp
    have hpb := prs_bd hb (f + 1) a x e h
    unfold prs at h
    split at h
    case isFalse => cases h
    case isTrue hcond =>
    obtain ⟨hal, he⟩ := hcond
    have hby : ByteL (L.drop a) := fun c hc => hb c (List.mem_of_mem_drop hc)
    have hfine := hread_fine (L := L.drop a) hby he
    have hmn := hread_many (L.drop a)
    have hg0 := hread_arg (L.drop a)
    have hg1 := hread_arg_lt (L.drop a)
    have hmj := hread_major (L.drop a) hby
    obtain ⟨w1, hw1, b1, S1⟩ := iblk1 w 56 #[.int .i64 0, .int .u64 0, .string ⟨#[]⟩, .slice none 0 0]
    have hz1 : w1.heap.size = w.heap.size + 1 := by rw [← hw1]; simp
    have HF := ref_Read w1 w1.heap.size A cap L a ((hr.below S1).more S1.size) (Nat.le_refl _) hb (by omega) (by omega)
    unfold hreadV at HF
    rw [List.length_drop] at hmn hfine
    generalize hread (L.drop a) = r at *
    obtain ⟨m, W, g, z, p, er⟩ := r
    dsimp only at HF h he hfine hmn hg0 hg1 hmj
    obtain ⟨_, hz0, hW, _⟩ := hfine
    obtain ⟨zn, rfl⟩ : ∃ zn : Nat, z = zn := ⟨z.toNat, by omega⟩
    rw [Int.toNat_natCast] at h
    generalize (if p < 0 then -1 else p + (a : Int)) = pl at *
    have hbL : a + zn ≤ L.length := by omega
    obtain ⟨b, hbe⟩ : ∃ b, a + zn = b := ⟨_, rfl⟩
    have hbi : (a : Int) + (zn : Int) = (b : Int) := by omega
    rw [hbe] at h hbL
    have hW' : W = 0 ∨ W = 1 ∨ FW W g := by
      rcases hW with h | h | h | h | h
      · exact .inl h
      · exact .inr (.inl h)
      · exact .inr (.inr (.inl h))
      · exact .inr (.inr (.inr (.inl h)))
      · exact .inr (.inr (.inr (.inr h)))
    have HFI := Lib.hid HF
    have HZ := item_zero
    have HZ1 := Lib.hid hz1
    have HRd := Lib.hid hr
    have HIH := Lib.hid ih
    have HCP := Lib.hid hcp
    have HBL := Lib.hid hb
    have HLL := Lib.hid hl
    have hb300 : (b : Int) ≤ 300 := by omega
    have hb0 : (0 : Int) ≤ (b : Int) := by omega
    have ha0 : (0 : Int) ≤ (a : Int) := by omega
    have ha3 : (a : Int) ≤ 300 := by omega
    have hzn : (0 : Int) ≤ (zn : Int) := by omega
    -- behind Read: the result's block, the item's
    have HX : Hid (∀ w2, Below w1.heap.size w1 w2 → Blk (w2.alloc (.cells #[.int .i64 0, .int .u64 0, .string ⟨#[]⟩, .slice none 0 0] 56)) w.heap.size 56 #[.int .i64 0, .int .u64 0, .string ⟨#[]⟩, .slice none 0 0] ∧ Blk (w2.alloc (.cells #[.int .i64 0, .int .u64 0, .string ⟨#[]⟩, .slice none 0 0] 56)) w2.heap.size 56 #[.int .i64 0, .int .u64 0, .string ⟨#[]⟩, .slice none 0 0] ∧ Below w.heap.size w (w2.alloc (.cells #[.int .i64 0, .int .u64 0, .string ⟨#[]⟩, .slice none 0 0] 56)) ∧ w.heap.size < w2.heap.size ∧ (w2.alloc (.cells #[.int .i64 0, .int .u64 0, .string ⟨#[]⟩, .slice none 0 0] 56)).heap.size = w2.heap.size + 1) := fun w2 hb2 => by
      have hbw := S1.trans (hb2.mono S1.size)
      have := hb2.size
      exact ⟨(b1.on hb2).alloc _, Blk.fresh _ _ _, hbw.alloc hbw.size _, by omega, by simp⟩
    have hm8 : m = 0 ∨ m = 1 ∨ m = 2 ∨ m = 3 ∨ m = 4 ∨ m = 5 ∨ m = 6 ∨ m = 7 := by omega
    unfold prsBody at h
    clear hb ih hal he hby hmn hmj HF b1 S1 hr hcp hz0 hW hl hbe
    rcases hm8 with rfl | rfl | rfl | rfl | rfl | rfl | rfl | rfl
    · rw [if_neg (by omega), if_neg (by omega), if_neg (by omega)] at h
      injection h with h
      injection h with h1 h2
      subst h1 h2
      go_enter Try.func19, Try.ntmps19
      go_wp2_with fail
      refine HFI.out.mono ?_
      rintro r w2 ⟨rfl, hb2⟩
      obtain ⟨hx1, hx2, hx3, hx4, hx5⟩ := HX.out w2 hb2
      have HX1 := Lib.hid hx1
      have HX2 := Lib.hid hx2
      have HX3 := Lib.hid hx3
      have HX4 := Lib.hid (And.intro hx4 hx5)
      clear hx1 hx3 hx4 hx5 hb2 HX HFI
      obtain ⟨wz, hwz⟩ : ∃ V, w2.alloc (.cells #[.int .i64 0, .int .u64 0, .string ⟨#[]⟩, .slice none 0 0] 56) = V := ⟨_, rfl⟩
      rw [hwz] at HX1 HX2 HX3 HX4
      obtain ⟨gx, hgx⟩ : ∃ gx, w2.heap.size = gx := ⟨_, rfl⟩
      rw [hgx] at HX2 HX4
      obtain ⟨r1, r2, r3, r4⟩ := it_fill HX2.out HX3.out (Nat.le_of_lt HX4.out.1) 0 0 ⟨#[]⟩ none 0 0
      obtain ⟨w3, hw3⟩ : ∃ V, wz.setRow gx #[.int .i64 0, .int .u64 0, .string ⟨#[]⟩, .slice none 0 0] = V := ⟨_, rfl⟩
      rw [hw3] at r1 r2 r3 r4
      have HS0 := Lib.hid r1
      have xw3 := r2
      have bw3 := HX1.out.only r4 (Nat.ne_of_lt HX4.out.1)
      have lw3 := r3
      clear r1 r2 r3 r4 hw3
      obtain ⟨w4, hw4⟩ : ∃ V, w3.setCell ⟨gx, 1, none⟩ (.int .u64 g) = V := ⟨_, rfl⟩
      have ow4 : Only gx w3 w4 := hw4 ▸ (Only.refl gx w3).put 1 _
      have xw4 : Blk w4 gx 56 #[.int .i64 0, .int .u64 g, .string ⟨#[]⟩, .slice none 0 0] := hw4 ▸ xw3.put 1 _
      have bw4 := bw3.only ow4 (by have := HX4.out.1; omega)
      have lw4 : Below w.heap.size w w4 := lw3.trans (ow4.below (Nat.le_of_lt HX4.out.1) lw3.size)
      have p0 := xw3.cell 0
      have p1 := xw3.cell 1
      have p2 := xw3.cell 2
      have p3 := xw3.cell 3
      have pf0 := xw3.free 0
      have pf1 := xw3.free 1
      have pf2 := xw3.free 2
      have pf3 := xw3.free 3
      simp only [List.getElem?_toArray, List.getElem?_cons_zero, List.getElem?_cons_succ] at p0 p1 p2 p3
      have q0 := xw4.cell 0
      have q1 := xw4.cell 1
      have q2 := xw4.cell 2
      have q3 := xw4.cell 3
      have qf0 := xw4.free 0
      have qf1 := xw4.free 1
      have qf2 := xw4.free 2
      have qf3 := xw4.free 3
      simp only [List.getElem?_toArray, List.getElem?_cons_zero, List.getElem?_cons_succ] at q0 q1 q2 q3
      obtain ⟨r1, r2, r3, r4⟩ := it_fill bw4 lw4 (Nat.le_refl _) 0 g ⟨#[]⟩ none 0 0
      have H1 := Lib.hid r1
      have H2 := Lib.hid r2
      have H3 := Lib.hid r3
      clear r1 r2 r3 r4
      clear xw3 bw3 lw3 xw4 bw4 lw4 ow4
      go_wp2_with ((with_reducible refine is_store 56 rfl ?_); (with_reducible refine wpList_store_run rfl rfl HS0.out ?_ ?_ ?_); (· rfl); (· rfl))
      refine wp_loop_rounds 1 ?_
      rw [rounds_succ]
      go_wp2_with ((with_reducible refine is_store 56 rfl ?_); (with_reducible refine wpList_store_run rfl rfl H1.out ?_ ?_ ?_); (· rfl); (· rfl))
      refine bodyPost_ret (results_blk2 rfl _ rfl H2.out Try.underlying56 rfl it_info) rfl ?_
      exact ⟨none, 0, rfl, ⟨Nat.le_refl _, fun _ => rfl, AtL.nil _⟩, H3.out⟩
    · rw [if_neg (by omega), if_neg (by omega), if_neg (by omega)] at h
      injection h with h
      injection h with h1 h2
      subst h1 h2
      go_enter Try.func19, Try.ntmps19
      go_wp2_with fail
      refine HFI.out.mono ?_
      rintro r w2 ⟨rfl, hb2⟩
      obtain ⟨hx1, hx2, hx3, hx4, hx5⟩ := HX.out w2 hb2
      have HX1 := Lib.hid hx1
      have HX2 := Lib.hid hx2
      have HX3 := Lib.hid hx3
      have HX4 := Lib.hid (And.intro hx4 hx5)
      clear hx1 hx3 hx4 hx5 hb2 HX HFI
      obtain ⟨wz, hwz⟩ : ∃ V, w2.alloc (.cells #[.int .i64 0, .int .u64 0, .string ⟨#[]⟩, .slice none 0 0] 56) = V := ⟨_, rfl⟩
      rw [hwz] at HX1 HX2 HX3 HX4
      obtain ⟨gx, hgx⟩ : ∃ gx, w2.heap.size = gx := ⟨_, rfl⟩
      rw [hgx] at HX2 HX4
      obtain ⟨r1, r2, r3, r4⟩ := it_fill HX2.out HX3.out (Nat.le_of_lt HX4.out.1) 1 0 ⟨#[]⟩ none 0 0
      obtain ⟨w3, hw3⟩ : ∃ V, wz.setRow gx #[.int .i64 1, .int .u64 0, .string ⟨#[]⟩, .slice none 0 0] = V := ⟨_, rfl⟩
      rw [hw3] at r1 r2 r3 r4
      have HS0 := Lib.hid r1
      have xw3 := r2
      have bw3 := HX1.out.only r4 (Nat.ne_of_lt HX4.out.1)
      have lw3 := r3
      clear r1 r2 r3 r4 hw3
      obtain ⟨w4, hw4⟩ : ∃ V, w3.setCell ⟨gx, 1, none⟩ (.int .u64 g) = V := ⟨_, rfl⟩
      have ow4 : Only gx w3 w4 := hw4 ▸ (Only.refl gx w3).put 1 _
      have xw4 : Blk w4 gx 56 #[.int .i64 1, .int .u64 g, .string ⟨#[]⟩, .slice none 0 0] := hw4 ▸ xw3.put 1 _
      have bw4 := bw3.only ow4 (by have := HX4.out.1; omega)
      have lw4 : Below w.heap.size w w4 := lw3.trans (ow4.below (Nat.le_of_lt HX4.out.1) lw3.size)
      have p0 := xw3.cell 0
      have p1 := xw3.cell 1
      have p2 := xw3.cell 2
      have p3 := xw3.cell 3
      have pf0 := xw3.free 0
      have pf1 := xw3.free 1
      have pf2 := xw3.free 2
      have pf3 := xw3.free 3
      simp only [List.getElem?_toArray, List.getElem?_cons_zero, List.getElem?_cons_succ] at p0 p1 p2 p3
      have q0 := xw4.cell 0
      have q1 := xw4.cell 1
      have q2 := xw4.cell 2
      have q3 := xw4.cell 3
      have qf0 := xw4.free 0
      have qf1 := xw4.free 1
      have qf2 := xw4.free 2
      have qf3 := xw4.free 3
      simp only [List.getElem?_toArray, List.getElem?_cons_zero, List.getElem?_cons_succ] at q0 q1 q2 q3
      obtain ⟨r1, r2, r3, r4⟩ := it_fill bw4 lw4 (Nat.le_refl _) 1 g ⟨#[]⟩ none 0 0
      have H1 := Lib.hid r1
      have H2 := Lib.hid r2
      have H3 := Lib.hid r3
      clear r1 r2 r3 r4
      clear xw3 bw3 lw3 xw4 bw4 lw4 ow4
      go_wp2_with ((with_reducible refine is_store 56 rfl ?_); (with_reducible refine wpList_store_run rfl rfl HS0.out ?_ ?_ ?_); (· rfl); (· rfl))
      refine wp_loop_rounds 1 ?_
      rw [rounds_succ]
      go_wp2_with ((with_reducible refine is_store 56 rfl ?_); (with_reducible refine wpList_store_run rfl rfl H1.out ?_ ?_ ?_); (· rfl); (· rfl))
      refine bodyPost_ret (results_blk2 rfl _ rfl H2.out Try.underlying56 rfl it_info) rfl ?_
      exact ⟨none, 0, rfl, ⟨Nat.le_refl _, fun _ => rfl, AtL.nil _⟩, H3.out⟩
    · rw [if_pos (by omega)] at h
      split at h
      case isFalse => cases h
      case isTrue hbe2 =>
      injection h with h
      injection h with h1 h2
      subst h1 h2
      obtain ⟨gn, rfl⟩ : ∃ gn : Nat, g = gn := ⟨g.toNat, by omega⟩
      rw [Int.toNat_natCast] at hbe2 ⊢
      have hsl : (slice L b (b + gn)).length = gn := by rw [length_slice hbe2]; omega
      have hcv : ∀ v : World, Rd v w.heap.size .u8 A L → (Instr.sliceAt 22 (.slice A L.length cap) (some (.int .i64 (b : Int))) (some (.int .i64 ((b : Int) + (gn : Int)))) none).run Try.prog v = .ok (.slice (cutA A b cap) gn (cap - b)) v ∧ (convert 22 9 (.slice (cutA A b cap) gn (cap - b))).run Try.prog v = .ok (.string (strOfNums (slice L b (b + gn)))) v := fun v hv => by
        have := run_part hv cap b (b + gn) HCP.out (by omega) hbe2
        rw [hsl, Int.natCast_add] at this
        exact this
      have HCV := Lib.hid hcv
      have hgn : (gn : Int) ≤ 300 := by have := HLL.out; omega
      have hgn0 : (0 : Int) ≤ (gn : Int) := by omega
      have eg : IntKind.i64.wrap (gn : Int) = (gn : Int) := IntWalk.i64_in _ (by omega)
      have ebg : IntKind.i64.wrap ((b : Int) + (gn : Int)) = (b : Int) + (gn : Int) := IntWalk.i64_in _ (by omega)
      generalize strOfNums (slice L b (b + gn)) = tx at *
      generalize cutA A b cap = A3 at *
      clear hcv hsl hbe2 hpb hg0 hg1
      go_enter Try.func19, Try.ntmps19
      go_wp2_with fail
      refine HFI.out.mono ?_
      rintro r w2 ⟨rfl, hb2⟩
      obtain ⟨hx1, hx2, hx3, hx4, hx5⟩ := HX.out w2 hb2
      have HX1 := Lib.hid hx1
      have HX2 := Lib.hid hx2
      have HX3 := Lib.hid hx3
      have HX4 := Lib.hid (And.intro hx4 hx5)
      clear hx1 hx3 hx4 hx5 hb2 HX HFI
      obtain ⟨wz, hwz⟩ : ∃ V, w2.alloc (.cells #[.int .i64 0, .int .u64 0, .string ⟨#[]⟩, .slice none 0 0] 56) = V := ⟨_, rfl⟩
      rw [hwz] at HX1 HX2 HX3 HX4
      obtain ⟨gx, hgx⟩ : ∃ gx, w2.heap.size = gx := ⟨_, rfl⟩
      rw [hgx] at HX2 HX4
      obtain ⟨r1, r2, r3, r4⟩ := it_fill HX2.out HX3.out (Nat.le_of_lt HX4.out.1) 2 0 ⟨#[]⟩ none 0 0
      obtain ⟨w3, hw3⟩ : ∃ V, wz.setRow gx #[.int .i64 2, .int .u64 0, .string ⟨#[]⟩, .slice none 0 0] = V := ⟨_, rfl⟩
      rw [hw3] at r1 r2 r3 r4
      have HS0 := Lib.hid r1
      have xw3 := r2
      have bw3 := HX1.out.only r4 (Nat.ne_of_lt HX4.out.1)
      have lw3 := r3
      clear r1 r2 r3 r4 hw3
      obtain ⟨w4, hw4⟩ : ∃ V, w3.setCell ⟨gx, 2, none⟩ (.string tx) = V := ⟨_, rfl⟩
      have ow4 : Only gx w3 w4 := hw4 ▸ (Only.refl gx w3).put 2 _
      have xw4 : Blk w4 gx 56 #[.int .i64 2, .int .u64 0, .string tx, .slice none 0 0] := hw4 ▸ xw3.put 2 _
      have bw4 := bw3.only ow4 (by have := HX4.out.1; omega)
      have lw4 : Below w.heap.size w w4 := lw3.trans (ow4.below (Nat.le_of_lt HX4.out.1) lw3.size)
      obtain ⟨hs1, hs2⟩ := HCV.out w3 (HRd.out.below lw3)
      have p0 := xw3.cell 0
      have p1 := xw3.cell 1
      have p2 := xw3.cell 2
      have p3 := xw3.cell 3
      have pf0 := xw3.free 0
      have pf1 := xw3.free 1
      have pf2 := xw3.free 2
      have pf3 := xw3.free 3
      simp only [List.getElem?_toArray, List.getElem?_cons_zero, List.getElem?_cons_succ] at p0 p1 p2 p3
      have q0 := xw4.cell 0
      have q1 := xw4.cell 1
      have q2 := xw4.cell 2
      have q3 := xw4.cell 3
      have qf0 := xw4.free 0
      have qf1 := xw4.free 1
      have qf2 := xw4.free 2
      have qf3 := xw4.free 3
      simp only [List.getElem?_toArray, List.getElem?_cons_zero, List.getElem?_cons_succ] at q0 q1 q2 q3
      obtain ⟨r1, r2, r3, r4⟩ := it_fill bw4 lw4 (Nat.le_refl _) 2 0 tx none 0 0
      have H1 := Lib.hid r1
      have H2 := Lib.hid r2
      have H3 := Lib.hid r3
      clear r1 r2 r3 r4
      clear xw3 bw3 lw3 xw4 bw4 lw4 ow4 HCV
      go_wp2_with ((with_reducible refine is_store 56 rfl ?_); (with_reducible refine wpList_store_run rfl rfl HS0.out ?_ ?_ ?_); (· rfl); (· rfl))
      refine wp_loop_rounds 1 ?_
      rw [rounds_succ]
      go_wp2_with ((with_reducible refine is_store 56 rfl ?_); (with_reducible refine wpList_store_run rfl rfl H1.out ?_ ?_ ?_); (· rfl); (· rfl))
      refine bodyPost_ret (results_blk2 rfl _ rfl H2.out Try.underlying56 rfl it_info) rfl ?_
      exact ⟨none, 0, by rw [Int.natCast_add]; rfl, ⟨Nat.le_refl _, fun _ => rfl, AtL.nil _⟩, H3.out⟩
    · rw [if_pos (by omega)] at h
      split at h
      case isFalse => cases h
      case isTrue hbe2 =>
      injection h with h
      injection h with h1 h2
      subst h1 h2
      obtain ⟨gn, rfl⟩ : ∃ gn : Nat, g = gn := ⟨g.toNat, by omega⟩
      rw [Int.toNat_natCast] at hbe2 ⊢
      have hsl : (slice L b (b + gn)).length = gn := by rw [length_slice hbe2]; omega
      have hcv : ∀ v : World, Rd v w.heap.size .u8 A L → (Instr.sliceAt 22 (.slice A L.length cap) (some (.int .i64 (b : Int))) (some (.int .i64 ((b : Int) + (gn : Int)))) none).run Try.prog v = .ok (.slice (cutA A b cap) gn (cap - b)) v ∧ (convert 22 9 (.slice (cutA A b cap) gn (cap - b))).run Try.prog v = .ok (.string (strOfNums (slice L b (b + gn)))) v := fun v hv => by
        have := run_part hv cap b (b + gn) HCP.out (by omega) hbe2
        rw [hsl, Int.natCast_add] at this
        exact this
      have HCV := Lib.hid hcv
      have hgn : (gn : Int) ≤ 300 := by have := HLL.out; omega
      have hgn0 : (0 : Int) ≤ (gn : Int) := by omega
      have eg : IntKind.i64.wrap (gn : Int) = (gn : Int) := IntWalk.i64_in _ (by omega)
      have ebg : IntKind.i64.wrap ((b : Int) + (gn : Int)) = (b : Int) + (gn : Int) := IntWalk.i64_in _ (by omega)
      generalize strOfNums (slice L b (b + gn)) = tx at *
      generalize cutA A b cap = A3 at *
      clear hcv hsl hbe2 hpb hg0 hg1
      go_enter Try.func19, Try.ntmps19
      go_wp2_with fail
      refine HFI.out.mono ?_
      rintro r w2 ⟨rfl, hb2⟩
      obtain ⟨hx1, hx2, hx3, hx4, hx5⟩ := HX.out w2 hb2
      have HX1 := Lib.hid hx1
      have HX2 := Lib.hid hx2
      have HX3 := Lib.hid hx3
      have HX4 := Lib.hid (And.intro hx4 hx5)
      clear hx1 hx3 hx4 hx5 hb2 HX HFI
      obtain ⟨wz, hwz⟩ : ∃ V, w2.alloc (.cells #[.int .i64 0, .int .u64 0, .string ⟨#[]⟩, .slice none 0 0] 56) = V := ⟨_, rfl⟩
      rw [hwz] at HX1 HX2 HX3 HX4
      obtain ⟨gx, hgx⟩ : ∃ gx, w2.heap.size = gx := ⟨_, rfl⟩
      rw [hgx] at HX2 HX4
      obtain ⟨r1, r2, r3, r4⟩ := it_fill HX2.out HX3.out (Nat.le_of_lt HX4.out.1) 3 0 ⟨#[]⟩ none 0 0
      obtain ⟨w3, hw3⟩ : ∃ V, wz.setRow gx #[.int .i64 3, .int .u64 0, .string ⟨#[]⟩, .slice none 0 0] = V := ⟨_, rfl⟩
      rw [hw3] at r1 r2 r3 r4
      have HS0 := Lib.hid r1
      have xw3 := r2
      have bw3 := HX1.out.only r4 (Nat.ne_of_lt HX4.out.1)
      have lw3 := r3
      clear r1 r2 r3 r4 hw3
      obtain ⟨w4, hw4⟩ : ∃ V, w3.setCell ⟨gx, 2, none⟩ (.string tx) = V := ⟨_, rfl⟩
      have ow4 : Only gx w3 w4 := hw4 ▸ (Only.refl gx w3).put 2 _
      have xw4 : Blk w4 gx 56 #[.int .i64 3, .int .u64 0, .string tx, .slice none 0 0] := hw4 ▸ xw3.put 2 _
      have bw4 := bw3.only ow4 (by have := HX4.out.1; omega)
      have lw4 : Below w.heap.size w w4 := lw3.trans (ow4.below (Nat.le_of_lt HX4.out.1) lw3.size)
      obtain ⟨hs1, hs2⟩ := HCV.out w3 (HRd.out.below lw3)
      have p0 := xw3.cell 0
      have p1 := xw3.cell 1
      have p2 := xw3.cell 2
      have p3 := xw3.cell 3
      have pf0 := xw3.free 0
      have pf1 := xw3.free 1
      have pf2 := xw3.free 2
      have pf3 := xw3.free 3
      simp only [List.getElem?_toArray, List.getElem?_cons_zero, List.getElem?_cons_succ] at p0 p1 p2 p3
      have q0 := xw4.cell 0
      have q1 := xw4.cell 1
      have q2 := xw4.cell 2
      have q3 := xw4.cell 3
      have qf0 := xw4.free 0
      have qf1 := xw4.free 1
      have qf2 := xw4.free 2
      have qf3 := xw4.free 3
      simp only [List.getElem?_toArray, List.getElem?_cons_zero, List.getElem?_cons_succ] at q0 q1 q2 q3
      obtain ⟨r1, r2, r3, r4⟩ := it_fill bw4 lw4 (Nat.le_refl _) 3 0 tx none 0 0
      have H1 := Lib.hid r1
      have H2 := Lib.hid r2
      have H3 := Lib.hid r3
      clear r1 r2 r3 r4
      clear xw3 bw3 lw3 xw4 bw4 lw4 ow4 HCV
      go_wp2_with ((with_reducible refine is_store 56 rfl ?_); (with_reducible refine wpList_store_run rfl rfl HS0.out ?_ ?_ ?_); (· rfl); (· rfl))
      refine wp_loop_rounds 1 ?_
      rw [rounds_succ]
      go_wp2_with ((with_reducible refine is_store 56 rfl ?_); (with_reducible refine wpList_store_run rfl rfl H1.out ?_ ?_ ?_); (· rfl); (· rfl))
      refine bodyPost_ret (results_blk2 rfl _ rfl H2.out Try.underlying56 rfl it_info) rfl ?_
      exact ⟨none, 0, by rw [Int.natCast_add]; rfl, ⟨Nat.le_refl _, fun _ => rfl, AtL.nil _⟩, H3.out⟩
    · rw [if_neg (by omega), if_pos (by omega)] at h
      have hmo : manyOf 4 g = g.toNat := by unfold manyOf; simp
      rw [hmo] at h
      split at h
      · cases h
      next l e' hl' =>
      injection h with h
      injection h with h1 h2
      rw [if_neg (by omega)] at h1
      subst h1 h2
      have hbd := prsMany_bd (B := L) (prs_bd HBL.out f) g.toNat b l e' hbL hl'
      have hlen300 : l.length ≤ 300 := by
        have h1 := length_le_countL l
        have := hbd.2.2.2
        have := hbd.2.1
        have := HLL.out
        omega
      have HLEN := Lib.hid (fun _ : Unit => hlen300)
      obtain ⟨nn, hnn⟩ : ∃ nn : Nat, g.toNat = nn := ⟨_, rfl⟩
      have hni : (nn : Int) = g := by omega
      have hnl : (nn : Int) ≤ 300 := by have := hbd.2.2.1; omega
      rw [hnn] at hl'
      have HI : Hid (∃ rest, prsMany (prs L f) (nn - 0) b = some (rest, e') ∧ [] ++ rest = l) := ⟨l, hl', rfl⟩
      have HBd := Lib.hid hbL
      clear hpb hmo hl' hbd hnn hlen300 hbL
      go_enter Try.func19, Try.ntmps19
      go_wp2_with fail
      refine HFI.out.mono ?_
      rintro r w2 ⟨rfl, hb2⟩
      obtain ⟨hx1, hx2, hx3, hx4, hx5⟩ := HX.out w2 hb2
      have HX1 := Lib.hid hx1
      have HX2 := Lib.hid hx2
      have HX3 := Lib.hid hx3
      have HX4 := Lib.hid (And.intro hx4 hx5)
      clear hx1 hx3 hx4 hx5 hb2 HX HFI
      obtain ⟨wz, hwz⟩ : ∃ V, w2.alloc (.cells #[.int .i64 0, .int .u64 0, .string ⟨#[]⟩, .slice none 0 0] 56) = V := ⟨_, rfl⟩
      rw [hwz] at HX1 HX2 HX3 HX4
      obtain ⟨gx, hgx⟩ : ∃ gx, w2.heap.size = gx := ⟨_, rfl⟩
      rw [hgx] at HX2 HX4
      obtain ⟨r1, r2, r3, r4⟩ := it_fill HX2.out HX3.out (Nat.le_of_lt HX4.out.1) 4 0 ⟨#[]⟩ none 0 0
      obtain ⟨w3, hw3⟩ : ∃ V, wz.setRow gx #[.int .i64 4, .int .u64 0, .string ⟨#[]⟩, .slice none 0 0] = V := ⟨_, rfl⟩
      rw [hw3] at r1 r2 r3 r4
      have HS0 := Lib.hid r1
      have xw3 := r2
      have bw3 := HX1.out.only r4 (Nat.ne_of_lt HX4.out.1)
      have lw3 := r3
      clear r1 r2 r3 r4 hw3
      have q0 := xw3.cell 0
      have q1 := xw3.cell 1
      have q2 := xw3.cell 2
      have q3 := xw3.cell 3
      have qf0 := xw3.free 0
      have qf1 := xw3.free 1
      have qf2 := xw3.free 2
      have qf3 := xw3.free 3
      simp only [List.getElem?_toArray, List.getElem?_cons_zero, List.getElem?_cons_succ] at q0 q1 q2 q3
      have hszw : gx < w3.heap.size := xw3.lt
      have HXL := Lib.hid (And.intro xw3 (And.intro bw3 (And.intro lw3 hszw)))
      have HGX := Lib.hid HX4.out.1
      clear xw3 bw3 lw3 hszw 
      go_wp2_with ((with_reducible refine is_store 56 rfl ?_); (with_reducible refine wpList_store_run rfl rfl HS0.out ?_ ?_ ?_); (· rfl); (· rfl))
      go_loopw [1, 14] (fun at_ i wr => ∃ (k a' : Nat) (its : List It) (vv : Value), (k : Int) ≤ (nn : Int) ∧ i = .int .u64 k ∧ at_ = .int .i64 a' ∧ (a' : Int) ≤ 300 ∧ Hid (∃ rest, prsMany (prs L f) (nn - k) a' = some (rest, e') ∧ its ++ rest = l) ∧ Hid (Blk wr gx 56 #[.int .i64 4, .int .u64 0, .string ⟨#[]⟩, vv]) ∧ Hid (OwnT wr w3.heap.size vv its) ∧ Hid (a' ≤ L.length) ∧ Hid (Blk wr w.heap.size 56 #[.int .i64 0, .int .u64 0, .string ⟨#[]⟩, .slice none 0 0]) ∧ Hid (Below w.heap.size w wr) ∧ Hid (w3.heap.size ≤ wr.heap.size)) (fun _ i _ => nn - (intOf i).toNat)
      case atStart => exact ⟨0, b, [], _, by omega, rfl, rfl, hb300, HI, HXL.out.1, OwnT.nil _ _, HBd, HXL.out.2.1, HXL.out.2.2.1, Nat.le_refl _⟩
      case round =>
        clear HI HBd
        obtain ⟨k, a', its, vv, hk, rfl, rfl, ha3', HI, HXR, HO, HA, HRB, HW, HSZ⟩ := hrel
        have hk0 : (0 : Int) ≤ (k : Int) := by omega
        have ha0' : (0 : Int) ≤ (a' : Int) := by omega
        have hblow : Below w.heap.size w wr := HW.out
        by_cases hlt : (k : Int) < (nn : Int)
        · obtain ⟨rest, hi, hl'⟩ := HI.out
          obtain ⟨mm, hm⟩ : ∃ mm, nn - k = mm + 1 := ⟨nn - k - 1, by omega⟩
          rw [hm] at hi
          unfold prsMany at hi
          split at hi
          · cases hi
          next x1 e1 hx =>
          split at hi
          · cases hi
          next l2 e2 hl2 =>
          injection hi with hi
          injection hi with hi1 hi2
          subst hi1 hi2
          obtain ⟨d1, d2, d3⟩ := prs_bd HBL.out f a' x1 e1 hx
          have HIN : Hid (∃ rest, prsMany (prs L f) (nn - (k + 1)) e1 = some (rest, e2) ∧ (its ++ [x1]) ++ rest = l) := ⟨l2, by rw [show nn - (k + 1) = mm by omega]; exact hl2, by simpa using hl'⟩
          have HIT : Hid (Unit → its.length + 1 ≤ 1099511627776) := fun _ => by
            have h2 : its.length + 1 ≤ l.length := by rw [← hl']; simp
            have := HLEN.out ()
            omega
          have HE1 := Lib.hid d2
          have he3 : (e1 : Int) ≤ 300 := by have := HLL.out; omega
          have HVL : Hid (∀ q, vv.ownBlock = some q → q < wr.heap.size) := fun q hq => by
            obtain ⟨cs, h1, _⟩ := HO.out
            rcases own_ltb h1 with h2 | ⟨g, h2, _, h3⟩
            · rw [h2] at hq; cases hq
            · rw [h2] at hq; injection hq with hq; omega
          obtain ⟨w1z, hw1z⟩ : ∃ V, wr.alloc (.cells #[.int .i64 0, .int .u64 0, .string ⟨#[]⟩, .slice none 0 0] 56) = V := ⟨_, rfl⟩
          have S1z : Below wr.heap.size wr w1z := hw1z ▸ below_alloc _ _
          have y1z : Blk w1z wr.heap.size 56 #[.int .i64 0, .int .u64 0, .string ⟨#[]⟩, .slice none 0 0] := hw1z ▸ Blk.fresh _ _ _
          obtain ⟨r1, r2, r3, r4⟩ := it_fill y1z S1z (Nat.le_refl _) 0 0 ⟨#[]⟩ none 0 0
          obtain ⟨w1r, hw1r⟩ : ∃ V, w1z.setRow wr.heap.size #[.int .i64 0, .int .u64 0, .string ⟨#[]⟩, .slice none 0 0] = V := ⟨_, rfl⟩
          rw [hw1r] at r1 r2 r3 r4
          have HS1 := Lib.hid r1
          have S1r := r3
          have y1r := r2
          have hrd1 : Rd w1r w1r.heap.size .u8 A L := (HRd.out.below (hblow.trans (S1r.mono hblow.size))).more (Nat.le_trans hblow.size S1r.size)
          have HRC := Lib.hid (HIH.out a' x1 e1 _ A cap hx hrd1 HCP.out)
          unfold RefP vI at HRC
          clear r1 r2 r3 r4 hw1r S1z y1z
          obtain ⟨gy, hgy⟩ : ∃ gy, wr.heap.size = gy := ⟨_, rfl⟩
          rw [hgy] at S1r y1r HVL
          have HY := Lib.hid (And.intro S1r y1r)
          have HGY := Lib.hid hgy
          clear d1 d2 d3 hx hl2 hm hl' HI S1r y1r hrd1 hgy
          go_wp2_with ((with_reducible refine is_store 56 rfl ?_); (with_reducible refine wpList_store_run rfl rfl HS1.out ?_ ?_ ?_); (· rfl); (· rfl))
          refine HRC.out.mono ?_
          rintro r w2r ⟨Ax, cx, rfl, hat, hb2r⟩
          obtain ⟨S1r, y1r⟩ := HY.out
          have hgy := HGY.out
          have hsz1 : gy < w1r.heap.size := y1r.lt
          have hbw : Below gy wr w2r := S1r.trans (hb2r.mono (Nat.le_of_lt hsz1))
          obtain ⟨r1, r2, r3, r4⟩ := it_fill (y1r.on hb2r) hbw (Nat.le_refl gy) x1.k x1.n x1.s Ax x1.l.length cx
          obtain ⟨w3r, hw3r⟩ : ∃ V, w2r.setRow gy #[.int .i64 x1.k, .int .u64 x1.n, .string x1.s, .slice Ax x1.l.length cx] = V := ⟨_, rfl⟩
          rw [hw3r] at r1 r2 r3 r4
          have hGB : w3.heap.size ≤ gy := by have := HSZ.out; omega
          have hGX := HGX.out
          have hXB : gx < w3.heap.size := HXL.out.2.2.2
          have hX3 : AtS w3r (fun q => w3.heap.size ≤ q ∧ q < w3r.heap.size ∧ vv.ownBlock ≠ some q) x1 Ax cx := by
            refine ⟨hat.le, hat.nil, AtL.keep (w := w2r) (S := fun q => w1r.heap.size ≤ q ∧ q < w2r.heap.size) (fun q hq hlt => r4.block q hlt (fun e => ?_)) (fun q hq => ⟨?_, Nat.lt_of_lt_of_le hq.2 r4.size, fun e => ?_⟩) _ _ hat.at_.bound⟩
            · injection e with e; have := hq.1; omega
            · have := hq.1; omega
            · have := HVL.out q e; have := hq.1; omega
          have hO3 : OwnT w3r w3.heap.size vv its := by
            have := HO.out
            rw [← hgy] at r3
            exact this.on r3
          obtain ⟨v', w4r, rr, hO4, hb4r, hg4⟩ := hO3.add (by have := r3.size; omega) hX3 (HIT.out ())
          obtain ⟨Av, cv, hv', _⟩ := hO4.form
          obtain ⟨Lv, hLv⟩ : ∃ n : Nat, (its ++ [x1]).length = n := ⟨_, rfl⟩
          rw [hLv] at hv'
          subst hv'
          clear hLv
          have xr3 : Blk w3r gx 56 #[.int .i64 4, .int .u64 0, .string ⟨#[]⟩, vv] := HXR.out.below r3 (by omega)
          have xr4 : Blk w4r gx 56 #[.int .i64 4, .int .u64 0, .string ⟨#[]⟩, vv] := xr3.below hb4r hXB
          have z3 := xr3.cell 3
          have z4 := xr4.cell 3
          have zf := xr4.free 3
          have u0 := r2.cell 0
          have u1 := r2.cell 1
          have u2 := r2.cell 2
          have u3 := r2.cell 3
          simp only [List.getElem?_toArray, List.getElem?_cons_zero, List.getElem?_cons_succ] at z3 z4 u0 u1 u2 u3
          have H1 := Lib.hid r1
          have HRR := Lib.hid rr
          have HN : Hid (Blk (w4r.setCell ⟨gx, 3, none⟩ (.slice Av Lv cv)) gx 56 #[.int .i64 4, .int .u64 0, .string ⟨#[]⟩, .slice Av Lv cv] ∧ OwnT (w4r.setCell ⟨gx, 3, none⟩ (.slice Av Lv cv)) w3.heap.size (.slice Av Lv cv) (its ++ [x1]) ∧ Blk (w4r.setCell ⟨gx, 3, none⟩ (.slice Av Lv cv)) w.heap.size 56 #[.int .i64 0, .int .u64 0, .string ⟨#[]⟩, .slice none 0 0] ∧ Below w.heap.size w (w4r.setCell ⟨gx, 3, none⟩ (.slice Av Lv cv)) ∧ w3.heap.size ≤ (w4r.setCell ⟨gx, 3, none⟩ (.slice Av Lv cv)).heap.size) := by
            refine ⟨xr4.put 3 _, hO4.keep (by simp [World.setCell]) (fun q hq _ => Below.heap_setCell _ _ _ _ (by show q ≠ gx; omega)), ((HRB.out.below r3 (by omega)).below hb4r (by omega)).far (by show w.heap.size ≠ gx; omega) _, ((hblow.trans (r3.mono (by omega))).trans (hb4r.mono (by omega))).setCell (by show w.heap.size ≤ gx; omega) _, ?_⟩
            have h1 := r3.size
            have h2 := hb4r.size
            simp [World.setCell]
            omega
          clear rr hat hb2r r1 r2 r3 r4 hX3 hO3 hO4 hb4r hg4 xr3 xr4 HRC HIT HVL HO HW HXR HA HY HIH S1r y1r hbw HRB HSZ hblow
          have ew : IntKind.u64.wrap ((k : Int) + 1) = (k : Int) + 1 := IntWalk.u64_in _ (by omega)
          go_wp2_with (first | ((with_reducible refine is_store 56 rfl ?_); (with_reducible refine wpList_store_run rfl rfl H1.out ?_ ?_ ?_); (· rfl); (· rfl)) | ((with_reducible refine is_append 54 rfl ?_); (with_reducible refine wpList_append_run rfl rfl HRR.out ?_ ?_ ?_); (· rfl); (· rfl)))
          go_roundw
          case rel => exact ⟨k + 1, e1, its ++ [x1], .slice Av Lv cv, by omega, by go_num, rfl, he3, HIN, HN.out.1, HN.out.2.1, HE1, HN.out.2.2.1, HN.out.2.2.2.1, HN.out.2.2.2.2⟩
          case measure => simp [intOf]; omega
        · obtain ⟨rest, hi, hl'⟩ := HI.out
          have hkn : nn - k = 0 := by omega
          rw [hkn] at hi
          injection hi with hi
          injection hi with hi1 hi2
          subst hi1 hi2
          rw [List.append_nil] at hl'
          subst hl'
          obtain ⟨Al, cl, rfl, hle, hnil, hat⟩ := HO.out.form
          have hXB : gx < w3.heap.size := HXL.out.2.2.2
          obtain ⟨r1, r2, r3, r4⟩ := it_fill HRB.out hblow (Nat.le_refl _) 4 0 ⟨#[]⟩ Al its.length cl
          have H1 := Lib.hid r1
          have H2 := Lib.hid r2
          have H3 := Lib.hid r3
          have HEND : Hid (AtS (wr.setRow w.heap.size #[.int .i64 4, .int .u64 0, .string ⟨#[]⟩, .slice Al its.length cl]) (fun q => w.heap.size ≤ q) (.mk 4 0 ⟨#[]⟩ its) Al cl) := by
            refine ⟨hle, hnil, AtL.keep (fun q hq hlt => r4.block q hlt (fun e => ?_)) (fun q hq => ?_) _ _ hat⟩
            · injection e with e; have := HGX.out; omega
            · have := HGX.out; omega
          have z0 := HXR.out.cell 0
          have z1 := HXR.out.cell 1
          have z2 := HXR.out.cell 2
          have z3 := HXR.out.cell 3
          simp only [List.getElem?_toArray, List.getElem?_cons_zero, List.getElem?_cons_succ] at z0 z1 z2 z3
          clear HI hkn HO HW HXR HA hat r1 r2 r3 r4 hblow HRB HSZ
          go_wp2_with ((with_reducible refine is_store 56 rfl ?_); (with_reducible refine wpList_store_run rfl rfl H1.out ?_ ?_ ?_); (· rfl); (· rfl))
          refine bodyPost_ret (results_blk2 rfl _ rfl H2.out Try.underlying56 rfl it_info) rfl ?_
          exact ⟨Al, cl, rfl, HEND.out, H3.out⟩
    · rw [if_neg (by omega), if_pos (by omega)] at h
      have hmo : manyOf 5 g = (2 * g.toNat) := by unfold manyOf; simp
      rw [hmo] at h
      split at h
      · cases h
      next l e' hl' =>
      injection h with h
      injection h with h1 h2
      rw [if_neg (by omega)] at h1
      subst h1 h2
      have hbd := prsMany_bd (B := L) (prs_bd HBL.out f) (2 * g.toNat) b l e' hbL hl'
      have hlen300 : l.length ≤ 300 := by
        have h1 := length_le_countL l
        have := hbd.2.2.2
        have := hbd.2.1
        have := HLL.out
        omega
      have HLEN := Lib.hid (fun _ : Unit => hlen300)
      have ew2 : IntKind.u64.wrap (2 * g) = 2 * g := IntWalk.u64_in _ (by have h1 := length_le_countL l; have := hbd.2.2.1; have := hbd.2.2.2; omega)
      obtain ⟨nn, hnn⟩ : ∃ nn : Nat, (2 * g.toNat) = nn := ⟨_, rfl⟩
      have hni : (nn : Int) = (2 * g) := by omega
      have hnl : (nn : Int) ≤ 300 := by have := hbd.2.2.1; omega
      rw [hnn] at hl'
      have HI : Hid (∃ rest, prsMany (prs L f) (nn - 0) b = some (rest, e') ∧ [] ++ rest = l) := ⟨l, hl', rfl⟩
      have HBd := Lib.hid hbL
      clear hpb hmo hl' hbd hnn hlen300 hbL
      go_enter Try.func19, Try.ntmps19
      go_wp2_with fail
      refine HFI.out.mono ?_
      rintro r w2 ⟨rfl, hb2⟩
      obtain ⟨hx1, hx2, hx3, hx4, hx5⟩ := HX.out w2 hb2
      have HX1 := Lib.hid hx1
      have HX2 := Lib.hid hx2
      have HX3 := Lib.hid hx3
      have HX4 := Lib.hid (And.intro hx4 hx5)
      clear hx1 hx3 hx4 hx5 hb2 HX HFI
      obtain ⟨wz, hwz⟩ : ∃ V, w2.alloc (.cells #[.int .i64 0, .int .u64 0, .string ⟨#[]⟩, .slice none 0 0] 56) = V := ⟨_, rfl⟩
      rw [hwz] at HX1 HX2 HX3 HX4
      obtain ⟨gx, hgx⟩ : ∃ gx, w2.heap.size = gx := ⟨_, rfl⟩
      rw [hgx] at HX2 HX4
      obtain ⟨r1, r2, r3, r4⟩ := it_fill HX2.out HX3.out (Nat.le_of_lt HX4.out.1) 5 0 ⟨#[]⟩ none 0 0
      obtain ⟨w3, hw3⟩ : ∃ V, wz.setRow gx #[.int .i64 5, .int .u64 0, .string ⟨#[]⟩, .slice none 0 0] = V := ⟨_, rfl⟩
      rw [hw3] at r1 r2 r3 r4
      have HS0 := Lib.hid r1
      have xw3 := r2
      have bw3 := HX1.out.only r4 (Nat.ne_of_lt HX4.out.1)
      have lw3 := r3
      clear r1 r2 r3 r4 hw3
      have q0 := xw3.cell 0
      have q1 := xw3.cell 1
      have q2 := xw3.cell 2
      have q3 := xw3.cell 3
      have qf0 := xw3.free 0
      have qf1 := xw3.free 1
      have qf2 := xw3.free 2
      have qf3 := xw3.free 3
      simp only [List.getElem?_toArray, List.getElem?_cons_zero, List.getElem?_cons_succ] at q0 q1 q2 q3
      have hszw : gx < w3.heap.size := xw3.lt
      have HXL := Lib.hid (And.intro xw3 (And.intro bw3 (And.intro lw3 hszw)))
      have HGX := Lib.hid HX4.out.1
      clear xw3 bw3 lw3 hszw 
      go_wp2_with ((with_reducible refine is_store 56 rfl ?_); (with_reducible refine wpList_store_run rfl rfl HS0.out ?_ ?_ ?_); (· rfl); (· rfl))
      go_loopw [1, 14] (fun at_ i wr => ∃ (k a' : Nat) (its : List It) (vv : Value), (k : Int) ≤ (nn : Int) ∧ i = .int .u64 k ∧ at_ = .int .i64 a' ∧ (a' : Int) ≤ 300 ∧ Hid (∃ rest, prsMany (prs L f) (nn - k) a' = some (rest, e') ∧ its ++ rest = l) ∧ Hid (Blk wr gx 56 #[.int .i64 5, .int .u64 0, .string ⟨#[]⟩, vv]) ∧ Hid (OwnT wr w3.heap.size vv its) ∧ Hid (a' ≤ L.length) ∧ Hid (Blk wr w.heap.size 56 #[.int .i64 0, .int .u64 0, .string ⟨#[]⟩, .slice none 0 0]) ∧ Hid (Below w.heap.size w wr) ∧ Hid (w3.heap.size ≤ wr.heap.size)) (fun _ i _ => nn - (intOf i).toNat)
      case atStart => exact ⟨0, b, [], _, by omega, rfl, rfl, hb300, HI, HXL.out.1, OwnT.nil _ _, HBd, HXL.out.2.1, HXL.out.2.2.1, Nat.le_refl _⟩
      case round =>
        clear HI HBd
        obtain ⟨k, a', its, vv, hk, rfl, rfl, ha3', HI, HXR, HO, HA, HRB, HW, HSZ⟩ := hrel
        have hk0 : (0 : Int) ≤ (k : Int) := by omega
        have ha0' : (0 : Int) ≤ (a' : Int) := by omega
        have hblow : Below w.heap.size w wr := HW.out
        by_cases hlt : (k : Int) < (nn : Int)
        · obtain ⟨rest, hi, hl'⟩ := HI.out
          obtain ⟨mm, hm⟩ : ∃ mm, nn - k = mm + 1 := ⟨nn - k - 1, by omega⟩
          rw [hm] at hi
          unfold prsMany at hi
          split at hi
          · cases hi
          next x1 e1 hx =>
          split at hi
          · cases hi
          next l2 e2 hl2 =>
          injection hi with hi
          injection hi with hi1 hi2
          subst hi1 hi2
          obtain ⟨d1, d2, d3⟩ := prs_bd HBL.out f a' x1 e1 hx
          have HIN : Hid (∃ rest, prsMany (prs L f) (nn - (k + 1)) e1 = some (rest, e2) ∧ (its ++ [x1]) ++ rest = l) := ⟨l2, by rw [show nn - (k + 1) = mm by omega]; exact hl2, by simpa using hl'⟩
          have HIT : Hid (Unit → its.length + 1 ≤ 1099511627776) := fun _ => by
            have h2 : its.length + 1 ≤ l.length := by rw [← hl']; simp
            have := HLEN.out ()
            omega
          have HE1 := Lib.hid d2
          have he3 : (e1 : Int) ≤ 300 := by have := HLL.out; omega
          have HVL : Hid (∀ q, vv.ownBlock = some q → q < wr.heap.size) := fun q hq => by
            obtain ⟨cs, h1, _⟩ := HO.out
            rcases own_ltb h1 with h2 | ⟨g, h2, _, h3⟩
            · rw [h2] at hq; cases hq
            · rw [h2] at hq; injection hq with hq; omega
          obtain ⟨w1z, hw1z⟩ : ∃ V, wr.alloc (.cells #[.int .i64 0, .int .u64 0, .string ⟨#[]⟩, .slice none 0 0] 56) = V := ⟨_, rfl⟩
          have S1z : Below wr.heap.size wr w1z := hw1z ▸ below_alloc _ _
          have y1z : Blk w1z wr.heap.size 56 #[.int .i64 0, .int .u64 0, .string ⟨#[]⟩, .slice none 0 0] := hw1z ▸ Blk.fresh _ _ _
          obtain ⟨r1, r2, r3, r4⟩ := it_fill y1z S1z (Nat.le_refl _) 0 0 ⟨#[]⟩ none 0 0
          obtain ⟨w1r, hw1r⟩ : ∃ V, w1z.setRow wr.heap.size #[.int .i64 0, .int .u64 0, .string ⟨#[]⟩, .slice none 0 0] = V := ⟨_, rfl⟩
          rw [hw1r] at r1 r2 r3 r4
          have HS1 := Lib.hid r1
          have S1r := r3
          have y1r := r2
          have hrd1 : Rd w1r w1r.heap.size .u8 A L := (HRd.out.below (hblow.trans (S1r.mono hblow.size))).more (Nat.le_trans hblow.size S1r.size)
          have HRC := Lib.hid (HIH.out a' x1 e1 _ A cap hx hrd1 HCP.out)
          unfold RefP vI at HRC
          clear r1 r2 r3 r4 hw1r S1z y1z
          obtain ⟨gy, hgy⟩ : ∃ gy, wr.heap.size = gy := ⟨_, rfl⟩
          rw [hgy] at S1r y1r HVL
          have HY := Lib.hid (And.intro S1r y1r)
          have HGY := Lib.hid hgy
          clear d1 d2 d3 hx hl2 hm hl' HI S1r y1r hrd1 hgy
          go_wp2_with ((with_reducible refine is_store 56 rfl ?_); (with_reducible refine wpList_store_run rfl rfl HS1.out ?_ ?_ ?_); (· rfl); (· rfl))
          refine HRC.out.mono ?_
          rintro r w2r ⟨Ax, cx, rfl, hat, hb2r⟩
          obtain ⟨S1r, y1r⟩ := HY.out
          have hgy := HGY.out
          have hsz1 : gy < w1r.heap.size := y1r.lt
          have hbw : Below gy wr w2r := S1r.trans (hb2r.mono (Nat.le_of_lt hsz1))
          obtain ⟨r1, r2, r3, r4⟩ := it_fill (y1r.on hb2r) hbw (Nat.le_refl gy) x1.k x1.n x1.s Ax x1.l.length cx
          obtain ⟨w3r, hw3r⟩ : ∃ V, w2r.setRow gy #[.int .i64 x1.k, .int .u64 x1.n, .string x1.s, .slice Ax x1.l.length cx] = V := ⟨_, rfl⟩
          rw [hw3r] at r1 r2 r3 r4
          have hGB : w3.heap.size ≤ gy := by have := HSZ.out; omega
          have hGX := HGX.out
          have hXB : gx < w3.heap.size := HXL.out.2.2.2
          have hX3 : AtS w3r (fun q => w3.heap.size ≤ q ∧ q < w3r.heap.size ∧ vv.ownBlock ≠ some q) x1 Ax cx := by
            refine ⟨hat.le, hat.nil, AtL.keep (w := w2r) (S := fun q => w1r.heap.size ≤ q ∧ q < w2r.heap.size) (fun q hq hlt => r4.block q hlt (fun e => ?_)) (fun q hq => ⟨?_, Nat.lt_of_lt_of_le hq.2 r4.size, fun e => ?_⟩) _ _ hat.at_.bound⟩
            · injection e with e; have := hq.1; omega
            · have := hq.1; omega
            · have := HVL.out q e; have := hq.1; omega
          have hO3 : OwnT w3r w3.heap.size vv its := by
            have := HO.out
            rw [← hgy] at r3
            exact this.on r3
          obtain ⟨v', w4r, rr, hO4, hb4r, hg4⟩ := hO3.add (by have := r3.size; omega) hX3 (HIT.out ())
          obtain ⟨Av, cv, hv', _⟩ := hO4.form
          obtain ⟨Lv, hLv⟩ : ∃ n : Nat, (its ++ [x1]).length = n := ⟨_, rfl⟩
          rw [hLv] at hv'
          subst hv'
          clear hLv
          have xr3 : Blk w3r gx 56 #[.int .i64 5, .int .u64 0, .string ⟨#[]⟩, vv] := HXR.out.below r3 (by omega)
          have xr4 : Blk w4r gx 56 #[.int .i64 5, .int .u64 0, .string ⟨#[]⟩, vv] := xr3.below hb4r hXB
          have z3 := xr3.cell 3
          have z4 := xr4.cell 3
          have zf := xr4.free 3
          have u0 := r2.cell 0
          have u1 := r2.cell 1
          have u2 := r2.cell 2
          have u3 := r2.cell 3
          simp only [List.getElem?_toArray, List.getElem?_cons_zero, List.getElem?_cons_succ] at z3 z4 u0 u1 u2 u3
          have H1 := Lib.hid r1
          have HRR := Lib.hid rr
          have HN : Hid (Blk (w4r.setCell ⟨gx, 3, none⟩ (.slice Av Lv cv)) gx 56 #[.int .i64 5, .int .u64 0, .string ⟨#[]⟩, .slice Av Lv cv] ∧ OwnT (w4r.setCell ⟨gx, 3, none⟩ (.slice Av Lv cv)) w3.heap.size (.slice Av Lv cv) (its ++ [x1]) ∧ Blk (w4r.setCell ⟨gx, 3, none⟩ (.slice Av Lv cv)) w.heap.size 56 #[.int .i64 0, .int .u64 0, .string ⟨#[]⟩, .slice none 0 0] ∧ Below w.heap.size w (w4r.setCell ⟨gx, 3, none⟩ (.slice Av Lv cv)) ∧ w3.heap.size ≤ (w4r.setCell ⟨gx, 3, none⟩ (.slice Av Lv cv)).heap.size) := by
            refine ⟨xr4.put 3 _, hO4.keep (by simp [World.setCell]) (fun q hq _ => Below.heap_setCell _ _ _ _ (by show q ≠ gx; omega)), ((HRB.out.below r3 (by omega)).below hb4r (by omega)).far (by show w.heap.size ≠ gx; omega) _, ((hblow.trans (r3.mono (by omega))).trans (hb4r.mono (by omega))).setCell (by show w.heap.size ≤ gx; omega) _, ?_⟩
            have h1 := r3.size
            have h2 := hb4r.size
            simp [World.setCell]
            omega
          clear rr hat hb2r r1 r2 r3 r4 hX3 hO3 hO4 hb4r hg4 xr3 xr4 HRC HIT HVL HO HW HXR HA HY HIH S1r y1r hbw HRB HSZ hblow
          have ew : IntKind.u64.wrap ((k : Int) + 1) = (k : Int) + 1 := IntWalk.u64_in _ (by omega)
          go_wp2_with (first | ((with_reducible refine is_store 56 rfl ?_); (with_reducible refine wpList_store_run rfl rfl H1.out ?_ ?_ ?_); (· rfl); (· rfl)) | ((with_reducible refine is_append 54 rfl ?_); (with_reducible refine wpList_append_run rfl rfl HRR.out ?_ ?_ ?_); (· rfl); (· rfl)))
          go_roundw
          case rel => exact ⟨k + 1, e1, its ++ [x1], .slice Av Lv cv, by omega, by go_num, rfl, he3, HIN, HN.out.1, HN.out.2.1, HE1, HN.out.2.2.1, HN.out.2.2.2.1, HN.out.2.2.2.2⟩
          case measure => simp [intOf]; omega
        · obtain ⟨rest, hi, hl'⟩ := HI.out
          have hkn : nn - k = 0 := by omega
          rw [hkn] at hi
          injection hi with hi
          injection hi with hi1 hi2
          subst hi1 hi2
          rw [List.append_nil] at hl'
          subst hl'
          obtain ⟨Al, cl, rfl, hle, hnil, hat⟩ := HO.out.form
          have hXB : gx < w3.heap.size := HXL.out.2.2.2
          obtain ⟨r1, r2, r3, r4⟩ := it_fill HRB.out hblow (Nat.le_refl _) 5 0 ⟨#[]⟩ Al its.length cl
          have H1 := Lib.hid r1
          have H2 := Lib.hid r2
          have H3 := Lib.hid r3
          have HEND : Hid (AtS (wr.setRow w.heap.size #[.int .i64 5, .int .u64 0, .string ⟨#[]⟩, .slice Al its.length cl]) (fun q => w.heap.size ≤ q) (.mk 5 0 ⟨#[]⟩ its) Al cl) := by
            refine ⟨hle, hnil, AtL.keep (fun q hq hlt => r4.block q hlt (fun e => ?_)) (fun q hq => ?_) _ _ hat⟩
            · injection e with e; have := HGX.out; omega
            · have := HGX.out; omega
          have z0 := HXR.out.cell 0
          have z1 := HXR.out.cell 1
          have z2 := HXR.out.cell 2
          have z3 := HXR.out.cell 3
          simp only [List.getElem?_toArray, List.getElem?_cons_zero, List.getElem?_cons_succ] at z0 z1 z2 z3
          clear HI hkn HO HW HXR HA hat r1 r2 r3 r4 hblow HRB HSZ
          go_wp2_with ((with_reducible refine is_store 56 rfl ?_); (with_reducible refine wpList_store_run rfl rfl H1.out ?_ ?_ ?_); (· rfl); (· rfl))
          refine bodyPost_ret (results_blk2 rfl _ rfl H2.out Try.underlying56 rfl it_info) rfl ?_
          exact ⟨Al, cl, rfl, HEND.out, H3.out⟩
    · rw [if_neg (by omega), if_pos (by omega)] at h
      have hmo : manyOf 6 g = 1 := by unfold manyOf; simp
      rw [hmo] at h
      split at h
      · cases h
      next l e' hl' =>
      injection h with h
      injection h with h1 h2
      rw [if_pos rfl] at h1
      subst h1 h2
      have hbd := prsMany_bd (B := L) (prs_bd HBL.out f) 1 b l e' hbL hl'
      have hlen300 : l.length ≤ 300 := by
        have h1 := length_le_countL l
        have := hbd.2.2.2
        have := hbd.2.1
        have := HLL.out
        omega
      have HLEN := Lib.hid (fun _ : Unit => hlen300)
      obtain ⟨nn, hnn⟩ : ∃ nn : Nat, 1 = nn := ⟨_, rfl⟩
      have hni : (nn : Int) = 1 := by omega
      have hnl : (nn : Int) ≤ 300 := by have := hbd.2.2.1; omega
      rw [hnn] at hl'
      have HI : Hid (∃ rest, prsMany (prs L f) (nn - 0) b = some (rest, e') ∧ [] ++ rest = l) := ⟨l, hl', rfl⟩
      have HBd := Lib.hid hbL
      clear hpb hmo hl' hbd hnn hlen300 hbL
      go_enter Try.func19, Try.ntmps19
      go_wp2_with fail
      refine HFI.out.mono ?_
      rintro r w2 ⟨rfl, hb2⟩
      obtain ⟨hx1, hx2, hx3, hx4, hx5⟩ := HX.out w2 hb2
      have HX1 := Lib.hid hx1
      have HX2 := Lib.hid hx2
      have HX3 := Lib.hid hx3
      have HX4 := Lib.hid (And.intro hx4 hx5)
      clear hx1 hx3 hx4 hx5 hb2 HX HFI
      obtain ⟨wz, hwz⟩ : ∃ V, w2.alloc (.cells #[.int .i64 0, .int .u64 0, .string ⟨#[]⟩, .slice none 0 0] 56) = V := ⟨_, rfl⟩
      rw [hwz] at HX1 HX2 HX3 HX4
      obtain ⟨gx, hgx⟩ : ∃ gx, w2.heap.size = gx := ⟨_, rfl⟩
      rw [hgx] at HX2 HX4
      obtain ⟨r1, r2, r3, r4⟩ := it_fill HX2.out HX3.out (Nat.le_of_lt HX4.out.1) 6 0 ⟨#[]⟩ none 0 0
      obtain ⟨w3, hw3⟩ : ∃ V, wz.setRow gx #[.int .i64 6, .int .u64 0, .string ⟨#[]⟩, .slice none 0 0] = V := ⟨_, rfl⟩
      rw [hw3] at r1 r2 r3 r4
      have HS0 := Lib.hid r1
      have xw3 := r2
      have bw3 := HX1.out.only r4 (Nat.ne_of_lt HX4.out.1)
      have lw3 := r3
      clear r1 r2 r3 r4 hw3
      obtain ⟨w4, hw4⟩ : ∃ V, w3.setCell ⟨gx, 1, none⟩ (.int .u64 g) = V := ⟨_, rfl⟩
      have ow4 : Only gx w3 w4 := hw4 ▸ (Only.refl gx w3).put 1 _
      have xw4 : Blk w4 gx 56 #[.int .i64 6, .int .u64 g, .string ⟨#[]⟩, .slice none 0 0] := hw4 ▸ xw3.put 1 _
      have bw4 := bw3.only ow4 (by have := HX4.out.1; omega)
      have lw4 : Below w.heap.size w w4 := lw3.trans (ow4.below (Nat.le_of_lt HX4.out.1) lw3.size)
      have p0 := xw3.cell 0
      have p1 := xw3.cell 1
      have p2 := xw3.cell 2
      have p3 := xw3.cell 3
      have pf0 := xw3.free 0
      have pf1 := xw3.free 1
      have pf2 := xw3.free 2
      have pf3 := xw3.free 3
      simp only [List.getElem?_toArray, List.getElem?_cons_zero, List.getElem?_cons_succ] at p0 p1 p2 p3
      have q0 := xw4.cell 0
      have q1 := xw4.cell 1
      have q2 := xw4.cell 2
      have q3 := xw4.cell 3
      have qf0 := xw4.free 0
      have qf1 := xw4.free 1
      have qf2 := xw4.free 2
      have qf3 := xw4.free 3
      simp only [List.getElem?_toArray, List.getElem?_cons_zero, List.getElem?_cons_succ] at q0 q1 q2 q3
      have hszw : gx < w4.heap.size := xw4.lt
      have HXL := Lib.hid (And.intro xw4 (And.intro bw4 (And.intro lw4 hszw)))
      have HGX := Lib.hid HX4.out.1
      clear xw3 bw3 lw3 hszw xw4 bw4 lw4 ow4
      go_wp2_with ((with_reducible refine is_store 56 rfl ?_); (with_reducible refine wpList_store_run rfl rfl HS0.out ?_ ?_ ?_); (· rfl); (· rfl))
      go_loopw [1, 14] (fun at_ i wr => ∃ (k a' : Nat) (its : List It) (vv : Value), (k : Int) ≤ (nn : Int) ∧ i = .int .u64 k ∧ at_ = .int .i64 a' ∧ (a' : Int) ≤ 300 ∧ Hid (∃ rest, prsMany (prs L f) (nn - k) a' = some (rest, e') ∧ its ++ rest = l) ∧ Hid (Blk wr gx 56 #[.int .i64 6, .int .u64 g, .string ⟨#[]⟩, vv]) ∧ Hid (OwnT wr w4.heap.size vv its) ∧ Hid (a' ≤ L.length) ∧ Hid (Blk wr w.heap.size 56 #[.int .i64 0, .int .u64 0, .string ⟨#[]⟩, .slice none 0 0]) ∧ Hid (Below w.heap.size w wr) ∧ Hid (w4.heap.size ≤ wr.heap.size)) (fun _ i _ => nn - (intOf i).toNat)
      case atStart => exact ⟨0, b, [], _, by omega, rfl, rfl, hb300, HI, HXL.out.1, OwnT.nil _ _, HBd, HXL.out.2.1, HXL.out.2.2.1, Nat.le_refl _⟩
      case round =>
        clear HI HBd
        obtain ⟨k, a', its, vv, hk, rfl, rfl, ha3', HI, HXR, HO, HA, HRB, HW, HSZ⟩ := hrel
        have hk0 : (0 : Int) ≤ (k : Int) := by omega
        have ha0' : (0 : Int) ≤ (a' : Int) := by omega
        have hblow : Below w.heap.size w wr := HW.out
        by_cases hlt : (k : Int) < (nn : Int)
        · obtain ⟨rest, hi, hl'⟩ := HI.out
          obtain ⟨mm, hm⟩ : ∃ mm, nn - k = mm + 1 := ⟨nn - k - 1, by omega⟩
          rw [hm] at hi
          unfold prsMany at hi
          split at hi
          · cases hi
          next x1 e1 hx =>
          split at hi
          · cases hi
          next l2 e2 hl2 =>
          injection hi with hi
          injection hi with hi1 hi2
          subst hi1 hi2
          obtain ⟨d1, d2, d3⟩ := prs_bd HBL.out f a' x1 e1 hx
          have HIN : Hid (∃ rest, prsMany (prs L f) (nn - (k + 1)) e1 = some (rest, e2) ∧ (its ++ [x1]) ++ rest = l) := ⟨l2, by rw [show nn - (k + 1) = mm by omega]; exact hl2, by simpa using hl'⟩
          have HIT : Hid (Unit → its.length + 1 ≤ 1099511627776) := fun _ => by
            have h2 : its.length + 1 ≤ l.length := by rw [← hl']; simp
            have := HLEN.out ()
            omega
          have HE1 := Lib.hid d2
          have he3 : (e1 : Int) ≤ 300 := by have := HLL.out; omega
          have HVL : Hid (∀ q, vv.ownBlock = some q → q < wr.heap.size) := fun q hq => by
            obtain ⟨cs, h1, _⟩ := HO.out
            rcases own_ltb h1 with h2 | ⟨g, h2, _, h3⟩
            · rw [h2] at hq; cases hq
            · rw [h2] at hq; injection hq with hq; omega
          obtain ⟨w1z, hw1z⟩ : ∃ V, wr.alloc (.cells #[.int .i64 0, .int .u64 0, .string ⟨#[]⟩, .slice none 0 0] 56) = V := ⟨_, rfl⟩
          have S1z : Below wr.heap.size wr w1z := hw1z ▸ below_alloc _ _
          have y1z : Blk w1z wr.heap.size 56 #[.int .i64 0, .int .u64 0, .string ⟨#[]⟩, .slice none 0 0] := hw1z ▸ Blk.fresh _ _ _
          obtain ⟨r1, r2, r3, r4⟩ := it_fill y1z S1z (Nat.le_refl _) 0 0 ⟨#[]⟩ none 0 0
          obtain ⟨w1r, hw1r⟩ : ∃ V, w1z.setRow wr.heap.size #[.int .i64 0, .int .u64 0, .string ⟨#[]⟩, .slice none 0 0] = V := ⟨_, rfl⟩
          rw [hw1r] at r1 r2 r3 r4
          have HS1 := Lib.hid r1
          have S1r := r3
          have y1r := r2
          have hrd1 : Rd w1r w1r.heap.size .u8 A L := (HRd.out.below (hblow.trans (S1r.mono hblow.size))).more (Nat.le_trans hblow.size S1r.size)
          have HRC := Lib.hid (HIH.out a' x1 e1 _ A cap hx hrd1 HCP.out)
          unfold RefP vI at HRC
          clear r1 r2 r3 r4 hw1r S1z y1z
          obtain ⟨gy, hgy⟩ : ∃ gy, wr.heap.size = gy := ⟨_, rfl⟩
          rw [hgy] at S1r y1r HVL
          have HY := Lib.hid (And.intro S1r y1r)
          have HGY := Lib.hid hgy
          clear d1 d2 d3 hx hl2 hm hl' HI S1r y1r hrd1 hgy
          go_wp2_with ((with_reducible refine is_store 56 rfl ?_); (with_reducible refine wpList_store_run rfl rfl HS1.out ?_ ?_ ?_); (· rfl); (· rfl))
          refine HRC.out.mono ?_
          rintro r w2r ⟨Ax, cx, rfl, hat, hb2r⟩
          obtain ⟨S1r, y1r⟩ := HY.out
          have hgy := HGY.out
          have hsz1 : gy < w1r.heap.size := y1r.lt
          have hbw : Below gy wr w2r := S1r.trans (hb2r.mono (Nat.le_of_lt hsz1))
          obtain ⟨r1, r2, r3, r4⟩ := it_fill (y1r.on hb2r) hbw (Nat.le_refl gy) x1.k x1.n x1.s Ax x1.l.length cx
          obtain ⟨w3r, hw3r⟩ : ∃ V, w2r.setRow gy #[.int .i64 x1.k, .int .u64 x1.n, .string x1.s, .slice Ax x1.l.length cx] = V := ⟨_, rfl⟩
          rw [hw3r] at r1 r2 r3 r4
          have hGB : w4.heap.size ≤ gy := by have := HSZ.out; omega
          have hGX := HGX.out
          have hXB : gx < w4.heap.size := HXL.out.2.2.2
          have hX3 : AtS w3r (fun q => w4.heap.size ≤ q ∧ q < w3r.heap.size ∧ vv.ownBlock ≠ some q) x1 Ax cx := by
            refine ⟨hat.le, hat.nil, AtL.keep (w := w2r) (S := fun q => w1r.heap.size ≤ q ∧ q < w2r.heap.size) (fun q hq hlt => r4.block q hlt (fun e => ?_)) (fun q hq => ⟨?_, Nat.lt_of_lt_of_le hq.2 r4.size, fun e => ?_⟩) _ _ hat.at_.bound⟩
            · injection e with e; have := hq.1; omega
            · have := hq.1; omega
            · have := HVL.out q e; have := hq.1; omega
          have hO3 : OwnT w3r w4.heap.size vv its := by
            have := HO.out
            rw [← hgy] at r3
            exact this.on r3
          obtain ⟨v', w4r, rr, hO4, hb4r, hg4⟩ := hO3.add (by have := r3.size; omega) hX3 (HIT.out ())
          obtain ⟨Av, cv, hv', _⟩ := hO4.form
          obtain ⟨Lv, hLv⟩ : ∃ n : Nat, (its ++ [x1]).length = n := ⟨_, rfl⟩
          rw [hLv] at hv'
          subst hv'
          clear hLv
          have xr3 : Blk w3r gx 56 #[.int .i64 6, .int .u64 g, .string ⟨#[]⟩, vv] := HXR.out.below r3 (by omega)
          have xr4 : Blk w4r gx 56 #[.int .i64 6, .int .u64 g, .string ⟨#[]⟩, vv] := xr3.below hb4r hXB
          have z3 := xr3.cell 3
          have z4 := xr4.cell 3
          have zf := xr4.free 3
          have u0 := r2.cell 0
          have u1 := r2.cell 1
          have u2 := r2.cell 2
          have u3 := r2.cell 3
          simp only [List.getElem?_toArray, List.getElem?_cons_zero, List.getElem?_cons_succ] at z3 z4 u0 u1 u2 u3
          have H1 := Lib.hid r1
          have HRR := Lib.hid rr
          have HN : Hid (Blk (w4r.setCell ⟨gx, 3, none⟩ (.slice Av Lv cv)) gx 56 #[.int .i64 6, .int .u64 g, .string ⟨#[]⟩, .slice Av Lv cv] ∧ OwnT (w4r.setCell ⟨gx, 3, none⟩ (.slice Av Lv cv)) w4.heap.size (.slice Av Lv cv) (its ++ [x1]) ∧ Blk (w4r.setCell ⟨gx, 3, none⟩ (.slice Av Lv cv)) w.heap.size 56 #[.int .i64 0, .int .u64 0, .string ⟨#[]⟩, .slice none 0 0] ∧ Below w.heap.size w (w4r.setCell ⟨gx, 3, none⟩ (.slice Av Lv cv)) ∧ w4.heap.size ≤ (w4r.setCell ⟨gx, 3, none⟩ (.slice Av Lv cv)).heap.size) := by
            refine ⟨xr4.put 3 _, hO4.keep (by simp [World.setCell]) (fun q hq _ => Below.heap_setCell _ _ _ _ (by show q ≠ gx; omega)), ((HRB.out.below r3 (by omega)).below hb4r (by omega)).far (by show w.heap.size ≠ gx; omega) _, ((hblow.trans (r3.mono (by omega))).trans (hb4r.mono (by omega))).setCell (by show w.heap.size ≤ gx; omega) _, ?_⟩
            have h1 := r3.size
            have h2 := hb4r.size
            simp [World.setCell]
            omega
          clear rr hat hb2r r1 r2 r3 r4 hX3 hO3 hO4 hb4r hg4 xr3 xr4 HRC HIT HVL HO HW HXR HA HY HIH S1r y1r hbw HRB HSZ hblow
          have ew : IntKind.u64.wrap ((k : Int) + 1) = (k : Int) + 1 := IntWalk.u64_in _ (by omega)
          go_wp2_with (first | ((with_reducible refine is_store 56 rfl ?_); (with_reducible refine wpList_store_run rfl rfl H1.out ?_ ?_ ?_); (· rfl); (· rfl)) | ((with_reducible refine is_append 54 rfl ?_); (with_reducible refine wpList_append_run rfl rfl HRR.out ?_ ?_ ?_); (· rfl); (· rfl)))
          go_roundw
          case rel => exact ⟨k + 1, e1, its ++ [x1], .slice Av Lv cv, by omega, by go_num, rfl, he3, HIN, HN.out.1, HN.out.2.1, HE1, HN.out.2.2.1, HN.out.2.2.2.1, HN.out.2.2.2.2⟩
          case measure => simp [intOf]; omega
        · obtain ⟨rest, hi, hl'⟩ := HI.out
          have hkn : nn - k = 0 := by omega
          rw [hkn] at hi
          injection hi with hi
          injection hi with hi1 hi2
          subst hi1 hi2
          rw [List.append_nil] at hl'
          subst hl'
          obtain ⟨Al, cl, rfl, hle, hnil, hat⟩ := HO.out.form
          have hXB : gx < w4.heap.size := HXL.out.2.2.2
          obtain ⟨r1, r2, r3, r4⟩ := it_fill HRB.out hblow (Nat.le_refl _) 6 g ⟨#[]⟩ Al its.length cl
          have H1 := Lib.hid r1
          have H2 := Lib.hid r2
          have H3 := Lib.hid r3
          have HEND : Hid (AtS (wr.setRow w.heap.size #[.int .i64 6, .int .u64 g, .string ⟨#[]⟩, .slice Al its.length cl]) (fun q => w.heap.size ≤ q) (.mk 6 g ⟨#[]⟩ its) Al cl) := by
            refine ⟨hle, hnil, AtL.keep (fun q hq hlt => r4.block q hlt (fun e => ?_)) (fun q hq => ?_) _ _ hat⟩
            · injection e with e; have := HGX.out; omega
            · have := HGX.out; omega
          have z0 := HXR.out.cell 0
          have z1 := HXR.out.cell 1
          have z2 := HXR.out.cell 2
          have z3 := HXR.out.cell 3
          simp only [List.getElem?_toArray, List.getElem?_cons_zero, List.getElem?_cons_succ] at z0 z1 z2 z3
          clear HI hkn HO HW HXR HA hat r1 r2 r3 r4 hblow HRB HSZ
          go_wp2_with ((with_reducible refine is_store 56 rfl ?_); (with_reducible refine wpList_store_run rfl rfl H1.out ?_ ?_ ?_); (· rfl); (· rfl))
          refine bodyPost_ret (results_blk2 rfl _ rfl H2.out Try.underlying56 rfl it_info) rfl ?_
          exact ⟨Al, cl, rfl, HEND.out, H3.out⟩
    · rw [if_neg (by omega), if_neg (by omega)] at h
      by_cases hw : 1 < W
      · rw [if_pos ⟨rfl, hw⟩] at h
        injection h with h
        injection h with h1 h2
        subst h1 h2
        have HWI := Lib.hid (fun v => ref_WidenW W g (hW'.elim (fun e => by omega) (fun h => h.elim (fun e => by omega) id)) hg0 hg1 v)
        obtain ⟨nz, hnz⟩ : ∃ z, widN W g = z := ⟨_, rfl⟩
        rw [hnz] at HWI ⊢
        clear hnz hpb
        go_enter Try.func19, Try.ntmps19
        go_wp2_with fail
        refine HFI.out.mono ?_
        rintro r w2 ⟨rfl, hb2⟩
        obtain ⟨hx1, hx2, hx3, hx4, hx5⟩ := HX.out w2 hb2
        have HX1 := Lib.hid hx1
        have HX2 := Lib.hid hx2
        have HX3 := Lib.hid hx3
        have HX4 := Lib.hid (And.intro hx4 hx5)
        clear hx1 hx3 hx4 hx5 hb2 HX HFI
        obtain ⟨wz, hwz⟩ : ∃ V, w2.alloc (.cells #[.int .i64 0, .int .u64 0, .string ⟨#[]⟩, .slice none 0 0] 56) = V := ⟨_, rfl⟩
        rw [hwz] at HX1 HX2 HX3 HX4
        obtain ⟨gx, hgx⟩ : ∃ gx, w2.heap.size = gx := ⟨_, rfl⟩
        rw [hgx] at HX2 HX4
        obtain ⟨r1, r2, r3, r4⟩ := it_fill HX2.out HX3.out (Nat.le_of_lt HX4.out.1) 7 0 ⟨#[]⟩ none 0 0
        obtain ⟨w3, hw3⟩ : ∃ V, wz.setRow gx #[.int .i64 7, .int .u64 0, .string ⟨#[]⟩, .slice none 0 0] = V := ⟨_, rfl⟩
        rw [hw3] at r1 r2 r3 r4
        have HS0 := Lib.hid r1
        have xw3 := r2
        have bw3 := HX1.out.only r4 (Nat.ne_of_lt HX4.out.1)
        have lw3 := r3
        clear r1 r2 r3 r4 hw3
        obtain ⟨w4, hw4⟩ : ∃ V, w3.setCell ⟨gx, 1, none⟩ (.int .u64 g) = V := ⟨_, rfl⟩
        have ow4 : Only gx w3 w4 := hw4 ▸ (Only.refl gx w3).put 1 _
        have xw4 : Blk w4 gx 56 #[.int .i64 7, .int .u64 g, .string ⟨#[]⟩, .slice none 0 0] := hw4 ▸ xw3.put 1 _
        have bw4 := bw3.only ow4 (by have := HX4.out.1; omega)
        have lw4 : Below w.heap.size w w4 := lw3.trans (ow4.below (Nat.le_of_lt HX4.out.1) lw3.size)
        obtain ⟨w5, hw5⟩ : ∃ V, w4.setCell ⟨gx, 0, none⟩ (.int .i64 8) = V := ⟨_, rfl⟩
        have ow5 : Only gx w4 w5 := hw5 ▸ (Only.refl gx w4).put 0 _
        have xw5 : Blk w5 gx 56 #[.int .i64 8, .int .u64 g, .string ⟨#[]⟩, .slice none 0 0] := hw5 ▸ xw4.put 0 _
        have bw5 := bw4.only ow5 (by have := HX4.out.1; omega)
        have lw5 : Below w.heap.size w w5 := lw4.trans (ow5.below (Nat.le_of_lt HX4.out.1) lw4.size)
        have p0 := xw3.cell 0
        have p1 := xw3.cell 1
        have p2 := xw3.cell 2
        have p3 := xw3.cell 3
        have pf0 := xw3.free 0
        have pf1 := xw3.free 1
        have pf2 := xw3.free 2
        have pf3 := xw3.free 3
        simp only [List.getElem?_toArray, List.getElem?_cons_zero, List.getElem?_cons_succ] at p0 p1 p2 p3
        have q0 := xw4.cell 0
        have q1 := xw4.cell 1
        have q2 := xw4.cell 2
        have q3 := xw4.cell 3
        have qf0 := xw4.free 0
        have qf1 := xw4.free 1
        have qf2 := xw4.free 2
        have qf3 := xw4.free 3
        simp only [List.getElem?_toArray, List.getElem?_cons_zero, List.getElem?_cons_succ] at q0 q1 q2 q3
        have HX5 := Lib.hid (And.intro xw5 (And.intro bw5 lw5))
        clear xw3 bw3 lw3 xw4 bw4 lw4 ow4 xw5 bw5 lw5 ow5
        go_wp2_with ((with_reducible refine is_store 56 rfl ?_); (with_reducible refine wpList_store_run rfl rfl HS0.out ?_ ?_ ?_); (· rfl); (· rfl))
        refine (HWI.out w5).mono ?_
        rintro r w6 ⟨rfl, hb6⟩
        have xw6 := HX5.out.1.on hb6
        have bw6 := HX5.out.2.1.on hb6
        have lw6 := HX5.out.2.2.trans (hb6.mono HX5.out.2.2.size)
        obtain ⟨w7, hw7⟩ : ∃ V, w6.setCell ⟨gx, 1, none⟩ (.int .u64 nz) = V := ⟨_, rfl⟩
        have ow7 : Only gx w6 w7 := hw7 ▸ (Only.refl gx w6).put 1 _
        have xw7 : Blk w7 gx 56 #[.int .i64 8, .int .u64 nz, .string ⟨#[]⟩, .slice none 0 0] := hw7 ▸ xw6.put 1 _
        have bw7 := bw6.only ow7 (by have := HX4.out.1; omega)
        have lw7 : Below w.heap.size w w7 := lw6.trans (ow7.below (Nat.le_of_lt HX4.out.1) lw6.size)
        have s0 := xw6.cell 0
        have s1 := xw6.cell 1
        have s2 := xw6.cell 2
        have s3 := xw6.cell 3
        have sf0 := xw6.free 0
        have sf1 := xw6.free 1
        have sf2 := xw6.free 2
        have sf3 := xw6.free 3
        simp only [List.getElem?_toArray, List.getElem?_cons_zero, List.getElem?_cons_succ] at s0 s1 s2 s3
        have t0 := xw7.cell 0
        have t1 := xw7.cell 1
        have t2 := xw7.cell 2
        have t3 := xw7.cell 3
        have tf0 := xw7.free 0
        have tf1 := xw7.free 1
        have tf2 := xw7.free 2
        have tf3 := xw7.free 3
        simp only [List.getElem?_toArray, List.getElem?_cons_zero, List.getElem?_cons_succ] at t0 t1 t2 t3
        obtain ⟨r1, r2, r3, r4⟩ := it_fill bw7 lw7 (Nat.le_refl _) 8 nz ⟨#[]⟩ none 0 0
        have H1 := Lib.hid r1
        have H2 := Lib.hid r2
        have H3 := Lib.hid r3
        clear r1 r2 r3 r4
        clear xw6 bw6 lw6 xw7 bw7 lw7 ow7 hb6 HX5
        go_wp2_with ((with_reducible refine is_store 56 rfl ?_); (with_reducible refine wpList_store_run rfl rfl HS0.out ?_ ?_ ?_); (· rfl); (· rfl))
        refine wp_loop_rounds 1 ?_
        rw [rounds_succ]
        go_wp2_with ((with_reducible refine is_store 56 rfl ?_); (with_reducible refine wpList_store_run rfl rfl H1.out ?_ ?_ ?_); (· rfl); (· rfl))
        refine bodyPost_ret (results_blk2 rfl _ rfl H2.out Try.underlying56 rfl it_info) rfl ?_
        exact ⟨none, 0, rfl, ⟨Nat.le_refl _, fun _ => rfl, AtL.nil _⟩, H3.out⟩
      · rw [if_neg (fun q => hw q.2)] at h
        injection h with h
        injection h with h1 h2
        subst h1 h2
        go_enter Try.func19, Try.ntmps19
        go_wp2_with fail
        refine HFI.out.mono ?_
        rintro r w2 ⟨rfl, hb2⟩
        obtain ⟨hx1, hx2, hx3, hx4, hx5⟩ := HX.out w2 hb2
        have HX1 := Lib.hid hx1
        have HX2 := Lib.hid hx2
        have HX3 := Lib.hid hx3
        have HX4 := Lib.hid (And.intro hx4 hx5)
        clear hx1 hx3 hx4 hx5 hb2 HX HFI
        obtain ⟨wz, hwz⟩ : ∃ V, w2.alloc (.cells #[.int .i64 0, .int .u64 0, .string ⟨#[]⟩, .slice none 0 0] 56) = V := ⟨_, rfl⟩
        rw [hwz] at HX1 HX2 HX3 HX4
        obtain ⟨gx, hgx⟩ : ∃ gx, w2.heap.size = gx := ⟨_, rfl⟩
        rw [hgx] at HX2 HX4
        obtain ⟨r1, r2, r3, r4⟩ := it_fill HX2.out HX3.out (Nat.le_of_lt HX4.out.1) 7 0 ⟨#[]⟩ none 0 0
        obtain ⟨w3, hw3⟩ : ∃ V, wz.setRow gx #[.int .i64 7, .int .u64 0, .string ⟨#[]⟩, .slice none 0 0] = V := ⟨_, rfl⟩
        rw [hw3] at r1 r2 r3 r4
        have HS0 := Lib.hid r1
        have xw3 := r2
        have bw3 := HX1.out.only r4 (Nat.ne_of_lt HX4.out.1)
        have lw3 := r3
        clear r1 r2 r3 r4 hw3
        obtain ⟨w4, hw4⟩ : ∃ V, w3.setCell ⟨gx, 1, none⟩ (.int .u64 g) = V := ⟨_, rfl⟩
        have ow4 : Only gx w3 w4 := hw4 ▸ (Only.refl gx w3).put 1 _
        have xw4 : Blk w4 gx 56 #[.int .i64 7, .int .u64 g, .string ⟨#[]⟩, .slice none 0 0] := hw4 ▸ xw3.put 1 _
        have bw4 := bw3.only ow4 (by have := HX4.out.1; omega)
        have lw4 : Below w.heap.size w w4 := lw3.trans (ow4.below (Nat.le_of_lt HX4.out.1) lw3.size)
        have p0 := xw3.cell 0
        have p1 := xw3.cell 1
        have p2 := xw3.cell 2
        have p3 := xw3.cell 3
        have pf0 := xw3.free 0
        have pf1 := xw3.free 1
        have pf2 := xw3.free 2
        have pf3 := xw3.free 3
        simp only [List.getElem?_toArray, List.getElem?_cons_zero, List.getElem?_cons_succ] at p0 p1 p2 p3
        have q0 := xw4.cell 0
        have q1 := xw4.cell 1
        have q2 := xw4.cell 2
        have q3 := xw4.cell 3
        have qf0 := xw4.free 0
        have qf1 := xw4.free 1
        have qf2 := xw4.free 2
        have qf3 := xw4.free 3
        simp only [List.getElem?_toArray, List.getElem?_cons_zero, List.getElem?_cons_succ] at q0 q1 q2 q3
        obtain ⟨r1, r2, r3, r4⟩ := it_fill bw4 lw4 (Nat.le_refl _) 7 g ⟨#[]⟩ none 0 0
        have H1 := Lib.hid r1
        have H2 := Lib.hid r2
        have H3 := Lib.hid r3
        clear r1 r2 r3 r4
        clear xw3 bw3 lw3 xw4 bw4 lw4 ow4
        go_wp2_with ((with_reducible refine is_store 56 rfl ?_); (with_reducible refine wpList_store_run rfl rfl HS0.out ?_ ?_ ?_); (· rfl); (· rfl))
        refine wp_loop_rounds 1 ?_
        rw [rounds_succ]
        go_wp2_with ((with_reducible refine is_store 56 rfl ?_); (with_reducible refine wpList_store_run rfl rfl H1.out ?_ ?_ ?_); (· rfl); (· rfl))
        refine bodyPost_ret (results_blk2 rfl _ rfl H2.out Try.underlying56 rfl it_info) rfl ?_
        exact ⟨none, 0, rfl, ⟨Nat.le_refl _, fun _ => rfl, AtL.nil _⟩, H3.out⟩
end Go.Proofs.Ytchhbcmkhbfpoaa
