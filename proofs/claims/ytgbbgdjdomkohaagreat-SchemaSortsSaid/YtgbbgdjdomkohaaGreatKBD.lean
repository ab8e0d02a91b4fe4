/- Package enc: sorted. -/
import Derived.Test.YtgbbgdjdomkohaaGreatKBC
import Derived.Test.YtgbbgdjdomkohaaGreatKAU
import Derived.Test.YtgbbgdjdomkohaaGreatRows
import Derived.Test.YtgbbgdjdomkohaaGreatKAV
import Derived.RegionTactic
namespace Go.Proofs.YtgbbgdjdomkohaaGreat
open Go.RowKit Go.Sort

/-- sorted's memory, the first j items sorted. -/
structure SS (w0 wr : World) (g0 gq : Nat) (k n : Int) (s : ByteArray) (A1 : Option Addr) (m c1 : Nat) (l : List It) (j : Nat) : Prop where
  bx : Blk wr g0 31 #[.int .i64 k, .int .u64 n, .string s, .slice A1 m c1]
  byy : ∃ a b c d, Blk wr (g0 + 1) 31 #[a, b, c, d]
  hf : 0 < m → A1 = some ⟨gq, 0, none⟩ ∧ g0 + 2 ≤ gq ∧ Half wr gq g0 c1 l j
  low : Below g0 w0 wr
theorem SS.on {w0 wr W : World} {g0 gq : Nat} {k n : Int} {s : ByteArray} {A1 : Option Addr} {m c1 : Nat} {l : List It} {j : Nat} (h : SS w0 wr g0 gq k n s A1 m c1 l j) (hb : Below wr.heap.size wr W) : SS w0 W g0 gq k n s A1 m c1 l j := by
  obtain ⟨a, b, c, d, hy⟩ := h.byy
  refine ⟨h.bx.on hb, ⟨a, b, c, d, hy.on hb⟩, fun hm => ?_, h.low.trans (hb.mono (Nat.le_of_lt h.bx.lt))⟩
  obtain ⟨h1, h2, h3⟩ := h.hf hm
  exact ⟨h1, h2, h3.on hb⟩
/-- What a round finds behind the call. -/
theorem SS.cells {w0 wr : World} {g0 gq : Nat} {k n : Int} {s : ByteArray} {A1 : Option Addr} {m c1 : Nat} {l : List It} {j : Nat} (h : SS w0 wr g0 gq k n s A1 m c1 l j) (hm : 0 < m) {X : It} (hX : l[j]? = some X) : wr.cell? ⟨g0, 3, none⟩ = some (.slice A1 m c1) ∧ (∃ a, wr.cell? ⟨gq, j * 4, none⟩ = some a) ∧ (∃ a, wr.cell? ⟨gq, j * 4 + 1, none⟩ = some a) ∧ (∃ a, wr.cell? ⟨gq, j * 4 + 2, none⟩ = some a) ∧ (∃ a, wr.cell? ⟨gq, j * 4 + 3, none⟩ = some a) ∧
    wr.frozen? ⟨gq, j * 4, none⟩ = false ∧ wr.frozen? ⟨gq, j * 4 + 1, none⟩ = false ∧ wr.frozen? ⟨gq, j * 4 + 2, none⟩ = false ∧ wr.frozen? ⟨gq, j * 4 + 3, none⟩ = false := by
  obtain ⟨_, _, hh⟩ := h.hf hm
  obtain ⟨A2, c2, x0, x1, x2, x3, _⟩ := hh.get hX
  obtain ⟨a, b, t, k1, _⟩ := hh
  exact ⟨h.bx.cell 3, ⟨_, x0⟩, ⟨_, x1⟩, ⟨_, x2⟩, ⟨_, x3⟩, k1.free _, k1.free _, k1.free _, k1.free _⟩
theorem SS.start {w0 w2 : World} {g0 gq : Nat} {k n : Int} {s : ByteArray} {A A1 : Option Addr} {m cap c1 : Nat} {l : List It} (bx : Blk w2 g0 31 #[.int .i64 k, .int .u64 n, .string s, .slice A m cap]) (by' : Blk w2 (g0 + 1) 31 #[.int .i64 0, .int .u64 0, .string ⟨#[]⟩, .slice none 0 0])
    (hf : 0 < m → A1 = some ⟨gq, 0, none⟩ ∧ g0 + 2 ≤ gq ∧ Half w2 gq g0 c1 l 0) (low : Below g0 w0 w2) : SS w0 (w2.setCell ⟨g0, 3, none⟩ (.slice A1 m c1)) g0 gq k n s A1 m c1 l 0 := by
  have o1 : Only g0 w2 (w2.setCell ⟨g0, 3, none⟩ (.slice A1 m c1)) := ⟨rfl, rfl, rfl, by simp [World.setCell], fun i _ hne => Below.heap_setCell _ _ _ _ (fun e => hne (by rw [e]))⟩
  refine ⟨bx.put 3 _, ⟨_, _, _, _, by'.only o1 (by omega)⟩, fun hm => ?_, low.setCell (p := ⟨g0, 3, none⟩) (Nat.le_refl _) _⟩
  obtain ⟨h1, h2, a, b, t, k1, k2, k3, k4⟩ := hf hm
  exact ⟨h1, h2, a, b, t, k1.only o1 (by omega), k2, k3.keep2 fun i hi hl => o1.block i hl (fun e => by injection e with e; omega), k4.keep2 fun i hi hl => o1.block i hl (fun e => by injection e with e; omega)⟩
theorem SS.step {w0 w5 : World} {g0 gq : Nat} {k n : Int} {s : ByteArray} {A1 : Option Addr} {m c1 : Nat} {l : List It} {j : Nat} (h : SS w0 w5 g0 gq k n s A1 m c1 l j) (hm : 0 < m) {X : It} (hX : l[j]? = some X) {Av : Option Addr} {cv : Nat} (hat : AtS w5 (gq < ·) X.srt Av cv) :
    SS w0 ((((w5.setCell ⟨gq, j * 4, none⟩ (.int .i64 X.srt.k)).setCell ⟨gq, j * 4 + 1, none⟩ (.int .u64 X.srt.n)).setCell ⟨gq, j * 4 + 2, none⟩ (.string X.srt.s)).setCell ⟨gq, j * 4 + 3, none⟩ (.slice Av X.srt.l.length cv)) g0 gq k n s A1 m c1 l (j + 1) := by
  obtain ⟨h1, h2, h3⟩ := h.hf hm
  obtain ⟨a, b, c, d, hy⟩ := h.byy
  obtain ⟨hh, ho⟩ := h3.step4 hX hat (by omega)
  exact ⟨h.bx.only ho (by omega), ⟨a, b, c, d, hy.only ho (by omega)⟩, fun _ => ⟨h1, h2, hh⟩, h.low.trans (ho.below (by omega) (Nat.le_of_lt h.bx.lt))⟩
set_option maxRecDepth 100000 in
set_option maxHeartbeats 4000000 in
theorem enc_sorted : ∀ (c : Nat) (x : It) (A : Option Addr) (cap : Nat) (w : World), x.count ≤ c → x.okE → x.bulk ≤ 1099511627776 → AtB w w.heap.size x A cap →
    Calls Tryz.prog 28 #[vI x A cap] w fun e w' => ∃ A' c', e = .returned (vI x.srt A' c') ∧ AtS w' (fun b => w.heap.size ≤ b) x.srt A' c' ∧ Below w.heap.size w w' := by
  intro c
  induction c with
  | zero => intro x A cap w h; have := count_pos x; omega
  | succ c ih =>
    intro x A cap w hc hok hbk hB
    obtain ⟨k, n, s, l⟩ := x
    simp only [vI] at ih
    have hbl := bulk_length l
    have hbx : bulkL l < 1099511627776 := by rw [It.bulk] at hbk; omega
    have IH := Lib.hid ih
    have HOK := Lib.hid hok
    have HBK := Lib.hid (fun _ : Unit => hbx)
    have HCC := Lib.hid (fun _ : Unit => hc)
    have HB := Lib.hid hB
    have HL := Lib.hid (fun _ : Unit => (show l.length ≤ 1099511627775 by omega))
    obtain ⟨m, hm⟩ : ∃ m, l.length = m := ⟨_, rfl⟩
    have HM := Lib.hid hm
    have hmb : (m : Int) < 1099511627777 := by omega
    obtain ⟨y, hsr⟩ : ∃ y, (It.mk k n s l).srt = y := ⟨_, rfl⟩
    rw [hsr]
    have HSR := Lib.hid hsr
    clear hsr
    simp only [vI, It.k, It.n, It.s, It.l]
    rw [hm]
    clear ih hc hok hbk hbx hbl hB hm
    go_enter Tryz.func28, Tryz.ntmps28
    go_wp2_with fail
    have bx := (Blk.fresh w 31 #[.int .i64 k, .int .u64 n, .string s, .slice A m cap]).alloc (.cells #[.int .i64 0, .int .u64 0, .string ⟨#[]⟩, .slice none 0 0] 31)
    have by' := Blk.fresh (w.alloc (.cells #[.int .i64 k, .int .u64 n, .string s, .slice A m cap] 31)) 31 #[.int .i64 0, .int .u64 0, .string ⟨#[]⟩, .slice none 0 0]
    have bl := (below_alloc w (.cells #[.int .i64 k, .int .u64 n, .string s, .slice A m cap] 31)).alloc (by simp) (.cells #[.int .i64 0, .int .u64 0, .string ⟨#[]⟩, .slice none 0 0] 31)
    have hs2 : ((w.alloc (.cells #[.int .i64 k, .int .u64 n, .string s, .slice A m cap] 31)).alloc (.cells #[.int .i64 0, .int .u64 0, .string ⟨#[]⟩, .slice none 0 0] 31)).heap.size = w.heap.size + 2 := by simp
    have hs1 : (w.alloc (.cells #[.int .i64 k, .int .u64 n, .string s, .slice A m cap] 31)).heap.size = w.heap.size + 1 := by simp
    rw [hs1] at by'
    generalize (w.alloc (.cells #[.int .i64 k, .int .u64 n, .string s, .slice A m cap] 31)).alloc (.cells #[.int .i64 0, .int .u64 0, .string ⟨#[]⟩, .slice none 0 0] 31) = w1 at *
    have hcl := items_clone l A cap w.heap.size w1 (HL.out ()) bl.size (HB.out.rl.keep bl)
    rw [HM.out] at hcl
    refine hcl.mono ?_
    rintro e w2 ⟨v, rfl, ho, hb⟩
    rw [hs2] at ho hb
    have bx2 := bx.on (hb.mono (Nat.le_of_eq hs2))
    have by2 := by'.on (hb.mono (Nat.le_of_eq hs2))
    obtain ⟨A1, c1, rfl, hle1, -, hnil1, hfr⟩ := oc_form ho.choose_spec.1
    have hq : ∃ gq, 0 < l.length → A1 = some ⟨gq, 0, none⟩ ∧ w.heap.size + 2 ≤ gq ∧ Half w2 gq w.heap.size c1 l 0 := by
      cases A1 with
      | none => exact ⟨0, fun h => by have := hnil1 rfl; omega⟩
      | some p =>
        obtain ⟨gq, rfl, h1, _⟩ := hfr p rfl
        exact ⟨gq, fun _ => ⟨rfl, h1, OwnI.half ho⟩⟩
    obtain ⟨gq, hq⟩ := hq
    have hbw := bl.trans (hb.mono (Nat.le_add_right _ 2))
    have ha1 : A1 = none ∨ ∃ q, A1 = some ⟨q, 0, none⟩ ∧ w.heap.size ≤ q := by
      cases A1 with
      | none => exact .inl rfl
      | some p =>
        obtain ⟨q, rfl, h1, _⟩ := hfr p rfl
        exact .inr ⟨q, rfl, by omega⟩
    rw [HM.out] at hle1 hq ⊢
    clear bx by' bl hcl ho hb hs2 hs1 hfr
    obtain ⟨g0, hg0⟩ : ∃ g0, w.heap.size = g0 := ⟨_, rfl⟩
    rw [hg0] at bx2 by2 hq hbw ha1 HB ⊢
    have HG := Lib.hid hg0
    have HQ := Lib.hid hq
    have HBW := Lib.hid hbw
    have HA1 := Lib.hid ha1
    have HN := Lib.hid (And.intro hle1 hnil1)
    have k3 := bx2.cell 3
    have f3 := bx2.free 3
    have HX := Lib.hid bx2
    have HY := Lib.hid by2
    have K0 := bx2.cell 0
    clear hg0 hq hbw ha1 hle1 hnil1 bx2 by2
    go_wp2_with fail
    have HSS := Lib.hid (SS.start (w0 := w) HX.out HY.out HQ.out HBW.out)
    generalize w2.setCell ⟨g0, 3, none⟩ (.slice A1 m c1) = w3 at *
    clear k3 f3 K0 HX HY HQ HBW
    go_loopw [12] (fun i wr => ∃ j : Nat, j ≤ m ∧ i = .int .i64 (j : Int) ∧ RowKit.Hid (SS w wr g0 gq k n s A1 m c1 l j)) (fun i _ => m - (intOf i).toNat)
    case atStart => exact ⟨0, by omega, rfl, HSS⟩
    case round =>
      clear HSS
      obtain ⟨j, hj, rfl, HSS⟩ := hrel
      by_cases hlt : j < m
      · have hm0 : 0 < m := by omega
        obtain ⟨rfl, hgq, hh⟩ := HSS.out.hf hm0
        obtain ⟨X, hX⟩ : ∃ X, l[j]? = some X := ⟨l[j]'(by rw [HM.out]; exact hlt), List.getElem?_eq_getElem _⟩
        obtain ⟨A2, c2, x0, x1, x2, x3, hat⟩ := hh.get hX
        obtain ⟨ya, yb, yc, yd, hy⟩ := HSS.out.byy
        have ci := HSS.out.bx.cell 3
        have y0 := hy.cell 0
        have y1 := hy.cell 1
        have y2 := hy.cell 2
        have y3 := hy.cell 3
        have z0 := hy.free 0
        have z1 := hy.free 1
        have z2 := hy.free 2
        have z3 := hy.free 3
        have hji : (j : Int) < m := Int.ofNat_lt.2 hlt
        have hcX : X.count ≤ c := by
          have h1 := HCC.out ()
          rw [It.count_eq] at h1
          have h2 := count_le_of_mem (List.mem_of_getElem? hX)
          have : (It.mk k n s l).l = l := rfl
          rw [this] at h1
          omega
        have hokX : X.okE := okEL_iff.1 (by have := HOK.out; rw [It.okE] at this; exact this.2) X (List.mem_of_getElem? hX)
        have hbX : X.bulk ≤ 1099511627776 := by have := bulk_mem_le (List.mem_of_getElem? hX); have := HBK.out (); omega
        have hls := HSS.out.bx.lt
        have HI := Lib.hid (fun (W : World) (hb : Below wr.heap.size wr W) => IH.out X A2 c2 W hcX hokX hbX (((hat.keep (n := g0) (fun b hb => hb) (hb.mono (Nat.le_of_lt hls))).toB (fun b hb => hb)).more (Nat.le_trans (Nat.le_of_lt hls) hb.size)))
        have e1 : wrap64 ((j : Int) + 1) = (j : Int) + 1 := by unfold wrap64; omega
        have HAT := Lib.hid hat
        have HHH := Lib.hid hh
        have HY := Lib.hid hy
        have HGQ := Lib.hid hgq
        have HXX := Lib.hid hX
        have HM0 := Lib.hid hm0
        clear hat hh hy hgq hX hj hlt hm0 hcX hokX hbX hls
        go_wp2_with fail
        clear x0 x1 x2 x3 y0 y1 y2 y3 z0 z1 z2 z3 ci
        have byn := Blk.fresh wr 31 #[.int .i64 X.k, .int .u64 X.n, .string X.s, .slice A2 X.l.length c2]
        have hbn := below_alloc wr (.cells #[.int .i64 X.k, .int .u64 X.n, .string X.s, .slice A2 X.l.length c2] 31)
        obtain ⟨q, hq⟩ : ∃ q, wr.heap.size = q := ⟨_, rfl⟩
        generalize wr.alloc (.cells #[.int .i64 X.k, .int .u64 X.n, .string X.s, .slice A2 X.l.length c2] 31) = W1 at *
        rw [hq] at byn ⊢
        have HS1 := Lib.hid (HSS.out.on hbn)
        have y0 := byn.cell 0
        have y1 := byn.cell 1
        have y2 := byn.cell 2
        have y3 := byn.cell 3
        have ci := HS1.out.bx.cell 3
        have HD := Lib.hid (show Below W1.heap.size W1 W1.drew from (Below.refl _ _).drew)
        have HBN := Lib.hid (show Below wr.heap.size wr W1.drew from hbn.trans (Below.refl _ _).drew)
        have HQQ := Lib.hid hq
        clear byn hbn hq
        have hfol : Tryz.prog.follows Departure.mixedOrders = true := by kernel_rfl
        go_region_with (go_at_call 28; refine (HI.out _ HBN.out).mono ?_; rintro e w5 ⟨Av, cv, rfl, hv, hb⟩; have hb5 := HD.out.trans hb; obtain ⟨kx, ⟨p0, kp0⟩, ⟨p1, kp1⟩, ⟨p2, kp2⟩, ⟨p3, kp3⟩, f0, f1, f2, f3⟩ := (HS1.out.on hb5).cells HM0.out HXX.out; have HV := Lib.hid hv; have HB5 := Lib.hid hb5; clear hv hb hb5)
        all_goals
          have hst := SS.step (HS1.out.on HB5.out) HM0.out HXX.out (HV.out.more fun b hb => Nat.lt_of_lt_of_le HHH.out.lt (Nat.le_trans HBN.out.size hb))
          have HST := Lib.hid hst
          clear hst kx kp0 kp1 kp2 kp3 f0 f1 f2 f3 y0 y1 y2 y3 ci hfol
          go_wp2_with fail
          exact ⟨⟨j + 1, by omega, by simp, HST⟩, by simp [intOf]; omega⟩
      · have hjm : j = m := by omega
        subst hjm
        have hlen : (srtL l).length = j := by rw [length_srtL, HM.out]
        have hat : AtL wr (fun b => g0 + 2 ≤ b ∧ b < wr.heap.size) (srtL l) A1 := by
          refine AtL.bound ?_
          rcases Nat.eq_zero_or_pos j with h0 | h0
          · have : srtL l = [] := List.length_eq_zero_iff.1 (by omega)
            rw [this]
            exact AtL.nil _
          · obtain ⟨rfl, h2, h3⟩ := HSS.out.hf h0
            have h3' := h3
            rw [← HM.out] at h3'
            exact h3'.done (T := fun b => g0 + 2 ≤ b) fun b hb => by omega
        have hokl : okEL (srtL l) := srtL_ok l (by have := HOK.out; rw [It.okE] at this; exact this.2)
        have hbl : bulkL (srtL l) ≤ 1099511627776 := by rw [(srtL_bulk l (by have := HOK.out; rw [It.okE] at this; exact this.2)).1]; exact Nat.le_of_lt (HBK.out ())
        have ck0 := HSS.out.bx.cell 0
        have ck1 := HSS.out.bx.cell 1
        have ck2 := HSS.out.bx.cell 2
        have ck3 := HSS.out.bx.cell 3
        have f3 := HSS.out.bx.free 3
        have HAT := Lib.hid hat
        have HOL := Lib.hid hokl
        have HBL := Lib.hid (fun _ : Unit => hbl)
        have HLN := Lib.hid hlen
        clear hat hokl hbl hlen hj hlt
        by_cases h5 : k = 5
        · have hev : (srtL l).length % 2 = 0 := by rw [length_srtL]; exact even5 (by have := HOK.out; rw [It.okE] at this; exact this.1) h5
          subst h5
          have HR := Lib.hid (enc_rising (srtL l) A1 c1 wr HOL.out hev (HBL.out ()) (by rw [HLN.out]; exact HN.out.1) HN.out.2 (fun b => g0 + 2 ≤ b ∧ b < wr.heap.size) (fun b hb => hb.2) HAT.out)
          have HEV := Lib.hid hev
          rw [HLN.out] at HR
          clear hev
          go_wp2_with fail
          refine HR.out.mono ?_
          rintro e w5 ⟨A', c', rfl, r1, r2, r3, hb⟩
          have hs5 := HSS.out.on hb
          have e0 := hs5.bx.cell 0
          have e1 := hs5.bx.cell 1
          have e2 := hs5.bx.cell 2
          have e3 := hs5.bx.cell 3
          obtain ⟨ya, yb, yc, yd, hy⟩ := hs5.byy
          have y0 := hy.cell 0
          have y1 := hy.cell 1
          have y2 := hy.cell 2
          have y3 := hy.cell 3
          have z0 := hy.free 0
          have z1 := hy.free 1
          have z2 := hy.free 2
          have z3 := hy.free 3
          have HY := Lib.hid hy
          clear hy
          have e4 := hs5.bx.free 3
          have ho := only_cell w5 g0 3 (.slice A' j c')
          have hgw := HSS.out.bx.lt
          have HQ2 : RowKit.Hid (g0 + 2 ≤ wr.heap.size) := Lib.hid (by obtain ⟨_, _, _, _, h⟩ := HSS.out.byy; have := h.lt; omega)
          have r4 : AtL (w5.setCell ⟨g0, 3, none⟩ (.slice A' j c')) (fun b => g0 + 2 ≤ b) (risen (srtL l)) A' := AtL.keep (S' := fun b => g0 + 2 ≤ b) (fun b hs hl => ho.block b hl (fun e => by injection e with e; rcases hs with h | h <;> omega)) (fun b hs => by have := HQ2.out; rcases hs with h | h <;> omega) _ _ r3
          have hfin := hs5.low.trans (ho.below (Nat.le_refl g0) (Nat.le_of_lt hs5.bx.lt))
          have H1 := Lib.hid r1
          have H2 := Lib.hid r2
          have H4 := Lib.hid r4
          have HF := Lib.hid hfin
          have HY5 := Lib.hid (HY.out.only ho (by omega))
          have HLT := Lib.hid (show g0 ≤ (w5.setCell ⟨g0, 3, none⟩ (.slice A' j c')).heap.size from Nat.le_trans (Nat.le_of_lt hs5.bx.lt) ho.size)
          have hrl : (risen (srtL l)).length = j := by rw [(risen_perm HEV.out).length_eq, HLN.out]
          have HRL := Lib.hid hrl
          clear r1 r2 r3 r4 hfin hs5 hb ho hgw ck0 ck1 ck2 ck3 f3 hrl hmb HBK HL HBL HCC IH HOK
          simp only [List.getElem?_toArray, List.getElem?_cons_zero, List.getElem?_cons_succ] at e0 e1 e2 e3
          go_wp2_with fail
          have ow := (((only_cell (w5.setCell ⟨g0, 3, none⟩ (.slice A' j c')) (g0 + 1) 0 (.int .i64 5)).trans (only_cell _ (g0 + 1) 1 (.int .u64 n))).trans (only_cell _ (g0 + 1) 2 (.string s))).trans (only_cell _ (g0 + 1) 3 (.slice A' j c'))
          have hbk : Blk (((((w5.setCell ⟨g0, 3, none⟩ (.slice A' j c')).setCell ⟨g0 + 1, 0, none⟩ (.int .i64 5)).setCell ⟨g0 + 1, 1, none⟩ (.int .u64 n)).setCell ⟨g0 + 1, 2, none⟩ (.string s)).setCell ⟨g0 + 1, 3, none⟩ (.slice A' j c')) (g0 + 1) 31 #[.int .i64 5, .int .u64 n, .string s, .slice A' j c'] := (((HY5.out.put 0 (.int .i64 5)).put 1 (.int .u64 n)).put 2 (.string s)).put 3 (.slice A' j c')
          generalize ((((w5.setCell ⟨g0, 3, none⟩ (.slice A' j c')).setCell ⟨g0 + 1, 0, none⟩ (.int .i64 5)).setCell ⟨g0 + 1, 1, none⟩ (.int .u64 n)).setCell ⟨g0 + 1, 2, none⟩ (.string s)).setCell ⟨g0 + 1, 3, none⟩ (.slice A' j c') = W9 at *
          refine bodyPost_ret (results_blk rfl _ rfl hbk Tryz.underlying31 rfl sizeItem) rfl ?_
          refine ⟨A', c', ?_, ⟨?_, H2.out, ?_⟩, ?_⟩
          · have h := HSR.out
            rw [It.srt, if_pos rfl] at h
            injection h with a1 a2 a3 a4
            rw [← a1, ← a2, ← a3, ← a4, HRL.out]
          · rw [← HSR.out]; simp only [It.srt, if_pos, It.l, HRL.out]; exact H1.out
          · rw [← HSR.out]; simp only [It.srt, if_pos, It.l]; rw [HG.out]; exact AtL.keep (S' := fun b => g0 ≤ b) (fun b hs hl => ow.block b hl (fun e => by injection e with e; omega)) (fun b hs => by omega) _ _ H4.out
          · rw [HG.out]; exact HF.out.trans (ow.below (Nat.le_add_right g0 1) HLT.out)
        · have hd : (k == 5) = false := by simpa using h5
          have H5 := Lib.hid h5
          clear h5 hmb HBK HL HBL HCC IH HOK
          obtain ⟨ya, yb, yc, yd, hy⟩ := HSS.out.byy
          have y0 := hy.cell 0
          have y1 := hy.cell 1
          have y2 := hy.cell 2
          have y3 := hy.cell 3
          have z0 := hy.free 0
          have z1 := hy.free 1
          have z2 := hy.free 2
          have z3 := hy.free 3
          have HY := Lib.hid hy
          clear hy
          go_wp2_with fail
          have ow := (((only_cell wr (g0 + 1) 0 (.int .i64 k)).trans (only_cell _ (g0 + 1) 1 (.int .u64 n))).trans (only_cell _ (g0 + 1) 2 (.string s))).trans (only_cell _ (g0 + 1) 3 (.slice A1 j c1))
          have hbk : Blk ((((wr.setCell ⟨g0 + 1, 0, none⟩ (.int .i64 k)).setCell ⟨g0 + 1, 1, none⟩ (.int .u64 n)).setCell ⟨g0 + 1, 2, none⟩ (.string s)).setCell ⟨g0 + 1, 3, none⟩ (.slice A1 j c1)) (g0 + 1) 31 #[.int .i64 k, .int .u64 n, .string s, .slice A1 j c1] := (((HY.out.put 0 (.int .i64 k)).put 1 (.int .u64 n)).put 2 (.string s)).put 3 (.slice A1 j c1)
          generalize (((wr.setCell ⟨g0 + 1, 0, none⟩ (.int .i64 k)).setCell ⟨g0 + 1, 1, none⟩ (.int .u64 n)).setCell ⟨g0 + 1, 2, none⟩ (.string s)).setCell ⟨g0 + 1, 3, none⟩ (.slice A1 j c1) = W9 at *
          refine bodyPost_ret (results_blk rfl _ rfl hbk Tryz.underlying31 rfl sizeItem) rfl ?_
          refine ⟨A1, c1, ?_, ⟨?_, HN.out.2, ?_⟩, ?_⟩
          · have h := HSR.out
            rw [It.srt, if_neg H5.out] at h
            injection h with a1 a2 a3 a4
            rw [← a1, ← a2, ← a3, ← a4, HLN.out]
          · rw [← HSR.out]; simp only [It.srt, if_neg H5.out, It.l, HLN.out]; exact HN.out.1
          · rw [← HSR.out]; simp only [It.srt, if_neg H5.out, It.l]; rw [HG.out]; exact AtL.keep (S' := fun b => g0 ≤ b) (fun b hs hl => ow.block b hl (fun e => by injection e with e; omega)) (fun b hs => by omega) _ _ HAT.out
          · rw [HG.out]; exact HSS.out.low.trans (ow.below (Nat.le_add_right g0 1) (Nat.le_of_lt HSS.out.bx.lt))
end Go.Proofs.YtgbbgdjdomkohaaGreat

/- Package item: All. -/
namespace Go.Proofs.YtgbbgdjdomkohaaGreat
open Go.RowKit Go.Shelf
attribute [local go_sem] Oper.semAt_some

/-- How deep all stand, in all. -/
def tdSum {w : World} {n : Nat} {X0 : It} (pre : List (TD w n X0)) : Nat := (pre.map fun z => z.1.d).sum
def deepSum (x : It) : Nat := ((x.items 1).map (·.1)).sum
theorem tdSum_snoc {w : World} {n : Nat} {X0 : It} (pre : List (TD w n X0)) (z : TD w n X0) : tdSum (pre ++ [z]) = tdSum pre + z.1.d := by simp [tdSum]
theorem tdSum_all {w : World} {n : Nat} {X0 : It} {xs : List (TD w n X0)} {x : It} (h : xs.map tdOf = x.items 1) : tdSum xs = deepSum x := by
  unfold tdSum deepSum
  rw [← h, List.map_map]
  rfl
theorem tdSum_pre {w : World} {n : Nat} {X0 : It} {pre : List (TD w n X0)} {x : It} (h : pre.map tdOf <+: x.items 1) : tdSum pre ≤ deepSum x := by
  obtain ⟨r, hr⟩ := h
  unfold tdSum deepSum
  rw [← hr, List.map_append, List.sum_append, List.map_map]
  exact Nat.le_add_right _ _
theorem Cpd.atB {w : World} {n B : Nat} {x : It} {A : Option Addr} {cap : Nat} (h : Cpd w n B x.l A cap) : AtB w w.heap.size x A cap :=
  AtV.toB ⟨h.1, h.2.1, h.at.more fun _ _ => trivial⟩

end Go.Proofs.YtgbbgdjdomkohaaGreat

/- Package item: what All hands back. -/
namespace Go.Proofs.YtgbbgdjdomkohaaGreat
open Go.RowKit Go.Shelf
attribute [local go_sem] Oper.semAt_some

def toldV (z : Told) : Array Value := #[.int .i64 (z.d : Int), vI z.t z.A z.cap]
def toldOf (z : Told) : Nat × It := (z.d, z.t)
/-- How it lies in memory. -/
def OkT (B : Nat) (z : Told) (W : World) : Prop := z.t.l.length ≤ z.cap ∧ (z.A = none → z.cap = 0) ∧ AtL W (B ≤ ·) z.t.l z.A
theorem told_size (z : Told) : (toldV z).size = 2 := rfl

end Go.Proofs.YtgbbgdjdomkohaaGreat

/- The document's answer for texts: sign by sign. -/
namespace Go.Proofs.YtgbbgdjdomkohaaGreat
open Go.RowKit

/-- Is a place's byte one that follows? -/
def isF (s : ByteArray) (k : Nat) : Prop := k < s.size ∧ 128 ≤ sb s k ∧ sb s k ≤ 191
instance (s : ByteArray) (k : Nat) : Decidable (isF s k) := by unfold isF; exact inferInstance
/-- How many follow, of n, from a place on. -/
def ufol (s : ByteArray) (i : Nat) : Nat → Nat
  | 0 => 0
  | n + 1 => if isF s i then 1 + ufol s (i + 1) n else 0
theorem ufol_le (s : ByteArray) : ∀ (n i : Nat), ufol s i n ≤ n
  | 0, _ => Nat.le_refl _
  | n + 1, i => by
    unfold ufol
    split
    · have := ufol_le s n (i + 1); omega
    · omega
theorem ufol_at {s : ByteArray} : ∀ {k n i : Nat}, k ≤ n → (∀ j, j < k → isF s (i + j)) → (k = n ∨ ¬ isF s (i + k)) → ufol s i n = k
  | 0, 0, i, _, _, _ => rfl
  | 0, n + 1, i, _, _, h => by
    unfold ufol
    rw [if_neg (by
      rcases h with h | h
      · omega
      · exact h)]
  | k + 1, 0, _, h, _, _ => by omega
  | k + 1, n + 1, i, h, h1, h2 => by
    unfold ufol
    rw [if_pos (show isF s i from h1 0 (by omega)), ufol_at (k := k) (by omega) (fun j hj => by rw [show i + 1 + j = i + (j + 1) by omega]; exact h1 (j + 1) (by omega)) (by
      rcases h2 with h2 | h2
      · left; omega
      · right; rw [show i + 1 + k = i + (k + 1) by omega]; exact h2)]
    omega

set_option maxRecDepth 100000 in
theorem ref_follow (s : ByteArray) (hs : s.size ≤ 1000000000) (i n : Nat) (hi : i ≤ 1000000010) (hn : n ≤ 4) (w : World) :
    Calls Tryz.prog 17 #[.string s, .int .i64 i, .int .i64 n] w fun e w' => e = .returned (.int .i64 (ufol s i n)) ∧ w = w' := by
  have HI := fun (w : World) (k : Nat) (hk : k < s.size) (x : Int) (hx : x = k) => run_sb (P := Tryz.prog) Tryz.underlying9 w s k hk x hx
  go_enter Tryz.func17, Tryz.ntmps17
  go_wp2_with fail
  go_loop [7] (fun k => ∃ m : Nat, m ≤ n ∧ k = .int .i64 m ∧ ∀ j, j < m → isF s (i + j)) (fun k => n - (intOf k).toNat)
  case atStart => exact ⟨0, by omega, rfl, fun j hj => by omega⟩
  case round =>
    obtain ⟨m, hm, rfl, hf⟩ := hrel
    have HF := Lib.hid hf
    clear hf
    by_cases h1 : m < n
    · by_cases h2 : i + m < s.size
      · have hi' := HI w (i + m) h2 ((i : Int) + m) (by simp)
        clear HI
        by_cases h3 : 128 ≤ sb s (i + m)
        · by_cases h4 : sb s (i + m) ≤ 191
          · go_wp2_with fail
            go_round
            case rel => exact ⟨m + 1, by omega, by go_num, fun j hj => (by
              by_cases hjm : j < m
              · exact HF.out j hjm
              · rw [show j = m by omega]; exact ⟨h2, h3, h4⟩)⟩
            case measure => simp [intOf]; omega
          · have e := Lib.hid (ufol_at (s := s) (i := i) hm HF.out (Or.inr (fun hx => h4 hx.2.2)))
            go_wp2_with fail
            go_ret
            exact ⟨by rw [e.out]; rfl, rfl⟩
        · have e := Lib.hid (ufol_at (s := s) (i := i) hm HF.out (Or.inr (fun hx => h3 hx.2.1)))
          go_wp2_with fail
          go_ret
          exact ⟨by rw [e.out]; rfl, rfl⟩
      · have e := Lib.hid (ufol_at (s := s) (i := i) hm HF.out (Or.inr (fun hx => h2 hx.1)))
        have h2' : ¬ ((i : Int) + m < s.size) := by omega
        clear HI
        go_wp2_with fail
        go_ret
        exact ⟨by rw [e.out]; rfl, rfl⟩
    · have e := Lib.hid (ufol_at (s := s) (i := i) hm HF.out (Or.inl (by omega)))
      clear HI
      go_wp2_with fail
      go_ret
      exact ⟨by rw [e.out]; rfl, rfl⟩
end Go.Proofs.YtgbbgdjdomkohaaGreat

/- The document's answer for texts: a sign. -/
namespace Go.Proofs.YtgbbgdjdomkohaaGreat
open Go.RowKit
set_option maxRecDepth 100000

/-- A sign's first byte c: it has n bytes, the next one's bounds are lo, hi. -/
def Lead (c : Int) (n : Nat) (lo hi : Int) : Prop :=
  (n = 2 ∧ 194 ≤ c ∧ c ≤ 223 ∧ lo = 128 ∧ hi = 191) ∨ (n = 3 ∧ c = 224 ∧ lo = 160 ∧ hi = 191) ∨ (n = 3 ∧ c = 237 ∧ lo = 128 ∧ hi = 159) ∨ (n = 3 ∧ 225 ≤ c ∧ c ≤ 239 ∧ (c == 237) = false ∧ lo = 128 ∧ hi = 191) ∨
  (n = 4 ∧ c = 240 ∧ lo = 144 ∧ hi = 191) ∨ (n = 4 ∧ c = 244 ∧ lo = 128 ∧ hi = 143) ∨ (n = 4 ∧ 241 ≤ c ∧ c ≤ 243 ∧ lo = 128 ∧ hi = 191)
theorem lead_of {c : Int} {m : Nat} (h : umore c = some (m + 1)) : Lead c (m + 2) (ulo c) (uhi c) := by
  unfold Lead ulo uhi
  rcases umore_some h with ⟨h, r1, r2⟩ | ⟨h, r1, r2⟩ | ⟨h, r1, r2⟩ | ⟨h, r1⟩
  · have hm : m + 2 = 4 := by omega
    by_cases e1 : c = 240
    · subst e1; simp [hm]
    by_cases e2 : c = 244
    · subst e2; simp [hm]
    right; right; right; right; right; right
    rw [if_neg (by omega), if_neg e1, if_neg (by omega), if_neg e2]
    omega
  · have hm : m + 2 = 3 := by omega
    by_cases e1 : c = 224
    · subst e1; simp [hm]
    by_cases e2 : c = 237
    · subst e2; simp [hm]
    right; right; right; left
    rw [if_neg e1, if_neg (by omega), if_neg e2, if_neg (by omega), beq_eq_false_iff_ne]
    omega
  · have hm : m + 2 = 2 := by omega
    left
    rw [if_neg (by omega), if_neg (by omega), if_neg (by omega), if_neg (by omega)]
    omega
  · omega
set_option maxHeartbeats 1000000 in
theorem ref_sign_short (s : ByteArray) (hs : s.size ≤ 1000000000) (i n : Nat) (lo hi : Int) (hl : Lead (sb s i) n lo hi) (h0 : i < s.size) (h1 : s.size = i + 1) (w : World) :
    Calls Tryz.prog 9 #[.string s, .int .i64 i] w fun e w' => e = .returned (.tuple #[.int .i64 n, .int .i64 1]) ∧ w = w' := by
  have HI := fun (w : World) (k : Nat) (hk : k < s.size) (x : Int) (hx : x = k) => run_sb (P := Tryz.prog) Tryz.underlying9 w s k hk x hx
  have i0 := HI w i h0 i rfl
  have g1 : (s.size : Int) ≤ (i : Int) + 1 := by omega
  clear HI
  generalize sb s i = c at *
  rcases hl with ⟨rfl, r1, r2, rfl, rfl⟩ | ⟨rfl, rfl, rfl, rfl⟩ | ⟨rfl, rfl, rfl, rfl⟩ | ⟨rfl, r1, r2, r3, rfl, rfl⟩ | ⟨rfl, rfl, rfl, rfl⟩ | ⟨rfl, rfl, rfl, rfl⟩ | ⟨rfl, r1, r2, rfl, rfl⟩
  all_goals (
    go_enter Tryz.func9, Tryz.ntmps9
    go_wp2_with fail
    go_ret2
    exact ⟨rfl, rfl⟩)
set_option maxHeartbeats 2000000 in
theorem ref_sign_bad (s : ByteArray) (hs : s.size ≤ 1000000000) (i n : Nat) (lo hi : Int) (hl : Lead (sb s i) n lo hi) (h1 : i + 1 < s.size) (hb : sb s (i + 1) < lo ∨ hi < sb s (i + 1)) (w : World) :
    Calls Tryz.prog 9 #[.string s, .int .i64 i] w fun e w' => e = .returned (.tuple #[.int .i64 n, .int .i64 1]) ∧ w = w' := by
  have HI := fun (w : World) (k : Nat) (hk : k < s.size) (x : Int) (hx : x = k) => run_sb (P := Tryz.prog) Tryz.underlying9 w s k hk x hx
  have h0 : i < s.size := by omega
  have i0 := HI w i h0 i rfl
  have i1 := HI w (i + 1) h1 ((i : Int) + 1) (by simp)
  have g1 : (i : Int) + 1 < (s.size : Int) := by omega
  clear HI
  generalize sb s i = c at *
  generalize sb s (i + 1) = d at *
  by_cases hd : d < lo
  · clear hb
    rcases hl with ⟨rfl, r1, r2, rfl, rfl⟩ | ⟨rfl, rfl, rfl, rfl⟩ | ⟨rfl, rfl, rfl, rfl⟩ | ⟨rfl, r1, r2, r3, rfl, rfl⟩ | ⟨rfl, rfl, rfl, rfl⟩ | ⟨rfl, rfl, rfl, rfl⟩ | ⟨rfl, r1, r2, rfl, rfl⟩
    all_goals (
      go_enter Tryz.func9, Tryz.ntmps9
      go_wp2_with fail
      go_ret2
      exact ⟨rfl, rfl⟩)
  · have hd2 : hi < d := by omega
    clear hb
    rcases hl with ⟨rfl, r1, r2, rfl, rfl⟩ | ⟨rfl, rfl, rfl, rfl⟩ | ⟨rfl, rfl, rfl, rfl⟩ | ⟨rfl, r1, r2, r3, rfl, rfl⟩ | ⟨rfl, rfl, rfl, rfl⟩ | ⟨rfl, rfl, rfl, rfl⟩ | ⟨rfl, r1, r2, rfl, rfl⟩
    all_goals (
      go_enter Tryz.func9, Tryz.ntmps9
      go_wp2_with fail
      go_ret2
      exact ⟨rfl, rfl⟩)
set_option maxHeartbeats 2000000 in
theorem ref_sign_good (s : ByteArray) (hs : s.size ≤ 1000000000) (i n : Nat) (lo hi : Int) (hl : Lead (sb s i) n lo hi) (h1 : i + 1 < s.size) (hb : lo ≤ sb s (i + 1)) (hb' : sb s (i + 1) ≤ hi) (w : World) :
    Calls Tryz.prog 9 #[.string s, .int .i64 i] w fun e w' => e = .returned (.tuple #[.int .i64 n, .int .i64 (2 + ufol s (i + 2) (n - 2) : Nat)]) ∧ w = w' := by
  have HI := fun (w : World) (k : Nat) (hk : k < s.size) (x : Int) (hx : x = k) => run_sb (P := Tryz.prog) Tryz.underlying9 w s k hk x hx
  have h0 : i < s.size := by omega
  have i0 := HI w i h0 i rfl
  have i1 := HI w (i + 1) h1 ((i : Int) + 1) (by simp)
  have g1 : (i : Int) + 1 < (s.size : Int) := by omega
  have hn : 2 ≤ n ∧ n ≤ 4 := by unfold Lead at hl; omega
  have HF := Lib.hid (ref_follow s hs (i + 2) (n - 2) (by omega) (by omega))
  rw [show ((i + 2 : Nat) : Int) = (i : Int) + 2 by simp, show ((n - 2 : Nat) : Int) = (n : Int) - 2 by omega] at HF
  have hu := ufol_le s (n - 2) (i + 2)
  generalize ufol s (i + 2) (n - 2) = u at *
  have hu' : u ≤ 2 := by omega
  rw [show ((2 + u : Nat) : Int) = 2 + (u : Int) by simp]
  clear HI hu hn
  generalize sb s i = c at *
  generalize sb s (i + 1) = d at *
  rcases hl with ⟨rfl, r1, r2, rfl, rfl⟩ | ⟨rfl, rfl, rfl, rfl⟩ | ⟨rfl, rfl, rfl, rfl⟩ | ⟨rfl, r1, r2, r3, rfl, rfl⟩ | ⟨rfl, rfl, rfl, rfl⟩ | ⟨rfl, rfl, rfl, rfl⟩ | ⟨rfl, r1, r2, rfl, rfl⟩
  all_goals (
    simp only [Int.reduceSub, Int.cast_ofNat_Int] at HF
    go_enter Tryz.func9, Tryz.ntmps9
    go_wp2_with fail
    refine (HF.out w).mono ?_
    rintro e w' ⟨rfl, rfl⟩
    go_wp2_with fail
    go_ret2
    exact ⟨rfl, rfl⟩)
theorem ref_sign_one (s : ByteArray) (i : Nat) (h0 : i < s.size) (hm : umore (sb s i) = some 0) (w : World) :
    Calls Tryz.prog 9 #[.string s, .int .i64 i] w fun e w' => e = .returned (.tuple #[.int .i64 1, .int .i64 1]) ∧ w = w' := by
  have i0 := run_sb (P := Tryz.prog) Tryz.underlying9 w s i h0 i rfl
  have r1 : sb s i ≤ 127 := by have := umore_some hm; omega
  clear hm
  generalize sb s i = c at *
  go_enter Tryz.func9, Tryz.ntmps9
  go_wp2_with fail
  go_ret2
  exact ⟨rfl, rfl⟩
theorem ref_sign_none (s : ByteArray) (i : Nat) (h0 : i < s.size) (hm : umore (sb s i) = none) (w : World) :
    Calls Tryz.prog 9 #[.string s, .int .i64 i] w fun e w' => e = .returned (.tuple #[.int .i64 0, .int .i64 0]) ∧ w = w' := by
  have i0 := run_sb (P := Tryz.prog) Tryz.underlying9 w s i h0 i rfl
  obtain ⟨r1, r2, r3, r4⟩ := umore_none hm
  clear hm
  generalize sb s i = c at *
  go_enter Tryz.func9, Tryz.ntmps9
  go_wp2_with fail
  all_goals go_ret2
  all_goals exact ⟨rfl, rfl⟩
end Go.Proofs.YtgbbgdjdomkohaaGreat
