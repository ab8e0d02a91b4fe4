/- Package enc: rising, walked. -/
import Derived.Test.YtgbbgdjdomkohaaGreatKBB
namespace Go.Proofs.YtgbbgdjdomkohaaGreat
open Go.RowKit Go.Sort

theorem sort_none (p : Option Addr) (cap : Nat) (fv : Value) (w : World) : Calls Tryz.prog 53 #[.slice p 0 cap, fv] w fun e w' => e = .returned (.tuple #[]) ∧ w' = w :=
  Go.Proofs.AnyF.slices_SortFunc_none { Tryz.sortInts with } p cap fv w
theorem RS.start {w : World} {A : Option Addr} {cap m n : Nat} {l : List It} (hm : l.length = m) :
    RS w ((((w.alloc (.cells #[.slice A m cap] 29)).alloc (.cells (Array.replicate n (.slice none 0 0)) 46)).alloc (.cells #[.slice (some ⟨w.heap.size + 1, 0, none⟩) n n] 92)).alloc (.cells (Array.replicate n (.int .i64 0)) 3)) w.heap.size A cap l n 0 := by
  subst hm
  have h1 : (w.alloc (.cells #[.slice A l.length cap] 29)).heap.size = w.heap.size + 1 := by simp
  have h2 : ((w.alloc (.cells #[.slice A l.length cap] 29)).alloc (.cells (Array.replicate n (.slice none 0 0)) 46)).heap.size = w.heap.size + 2 := by simp
  have h3 : (((w.alloc (.cells #[.slice A l.length cap] 29)).alloc (.cells (Array.replicate n (.slice none 0 0)) 46)).alloc (.cells #[.slice (some ⟨w.heap.size + 1, 0, none⟩) n n] 92)).heap.size = w.heap.size + 3 := by simp
  refine ⟨(((Blk.fresh w _ _).alloc _).alloc _).alloc _, ?_, ?_, ⟨Array.replicate n (.slice none 0 0), by simp, ?_, fun i a h => absurd h (by omega)⟩, ((((below_alloc w _).alloc (by simp) _).alloc (by simp; omega) _).alloc (by simp; omega) _)⟩
  · have := (Blk.fresh ((w.alloc (.cells #[.slice A l.length cap] 29)).alloc (.cells (Array.replicate n (.slice none 0 0)) 46)) 92 #[.slice (some ⟨w.heap.size + 1, 0, none⟩) n n]).alloc (.cells (Array.replicate n (.int .i64 0)) 3)
    rwa [h2] at this
  · have := Blk.fresh (((w.alloc (.cells #[.slice A l.length cap] 29)).alloc (.cells (Array.replicate n (.slice none 0 0)) 46)).alloc (.cells #[.slice (some ⟨w.heap.size + 1, 0, none⟩) n n] 92)) 3 (Array.replicate n (.int .i64 0))
    rw [h3] at this
    rw [← ints_zero n]
    exact this
  · have := ((Blk.fresh (w.alloc (.cells #[.slice A l.length cap] 29)) 46 (Array.replicate n (.slice none 0 0))).alloc (.cells #[.slice (some ⟨w.heap.size + 1, 0, none⟩) n n] 92)).alloc (.cells (Array.replicate n (.int .i64 0)) 3)
    rwa [h1] at this
/-- What a round of rising's first loop finds. -/
theorem RS.cells {w0 wr : World} {g : Nat} {A : Option Addr} {cap : Nat} {l : List It} {n j : Nat} (h : RS w0 wr g A cap l n j) {i : Nat} (hi : i < n) : (∃ u, wr.cell? ⟨g + 1, i, none⟩ = some u) ∧ wr.frozen? ⟨g + 1, i, none⟩ = false ∧ (∃ u, wr.cell? ⟨g + 3, i, none⟩ = some u) ∧ wr.frozen? ⟨g + 3, i, none⟩ = false := by
  obtain ⟨kv, h1, h2, _⟩ := h.kb
  refine ⟨⟨kv[i]'(by omega), ?_⟩, h2.free _, ⟨(ints j n)[i]'(by rw [size_ints]; exact hi), ?_⟩, h.bp.free _⟩
  · rw [h2.cell]; exact Array.getElem?_eq_getElem (by omega)
  · rw [h.bp.cell]; exact Array.getElem?_eq_getElem (by rw [size_ints]; exact hi)
set_option maxRecDepth 100000 in
set_option maxHeartbeats 4000000 in
theorem enc_rising (l : List It) (A : Option Addr) (cap : Nat) (w : World) (hok : okEL l) (hev : l.length % 2 = 0) (hbk : bulkL l ≤ 1099511627776) (hle : l.length ≤ cap) (hnil : A = none → cap = 0) (S : Nat → Prop) (hS : ∀ b, S b → b < w.heap.size) (hat : AtL w S l A) :
    Calls Tryz.prog 40 #[.slice A l.length cap] w fun e w' => ∃ A' c', e = .returned (.slice A' l.length c') ∧ l.length ≤ c' ∧ (A' = none → c' = 0) ∧ AtL w' (fun b => S b ∨ w.heap.size ≤ b) (risen l) A' ∧ Below w.heap.size w w' := by
  have hml := bulk_length l
  have hB : AtB w w.heap.size (.mk 0 0 ⟨#[]⟩ l) A cap := ⟨hle, hnil, hat.more hS⟩
  have hSA : AtS w S (.mk 0 0 ⟨#[]⟩ l) A cap := ⟨hle, hnil, hat⟩
  have HSA := Lib.hid hSA
  have HSS := Lib.hid hS
  have HOK := Lib.hid hok
  have HEV := Lib.hid hev
  have HBK := Lib.hid (fun _ : Unit => hbk)
  have HB := Lib.hid hB
  have HLN := Lib.hid (And.intro hle hnil)
  obtain ⟨m, hm⟩ : ∃ m, l.length = m := ⟨_, rfl⟩
  obtain ⟨n, hn⟩ : ∃ n, m / 2 = n := ⟨_, rfl⟩
  have HM := Lib.hid hm
  have HNN := Lib.hid (show l.length / 2 = n by rw [hm, hn])
  have hdiv : (m : Int) / 2 = (n : Int) := by omega
  have hmb : (m : Int) < 1099511627777 := by omega
  have hnb : n ≤ 1099511627776 := by omega
  have hmk := fun W => make_keys n hnb W
  have hmi := fun W => make_ints n hnb W
  rw [hm]
  clear hml hB hSA hS hok hev hbk hle hnil hat hm hn hnb
  go_enter Tryz.func40, Tryz.ntmps40
  go_wp2_with fail
  have HRS := Lib.hid (RS.start (w := w) (A := A) (cap := cap) (n := n) HM.out)
  generalize (((w.alloc (.cells #[.slice A m cap] 29)).alloc (.cells (Array.replicate n (.slice none 0 0)) 46)).alloc (.cells #[.slice (some ⟨w.heap.size + 1, 0, none⟩) n n] 92)).alloc (.cells (Array.replicate n (.int .i64 0)) 3) = w4 at *
  obtain ⟨g, hg⟩ : ∃ g, w.heap.size = g := ⟨_, rfl⟩
  rw [hg] at HRS HB HSS ⊢
  have HG := Lib.hid hg
  clear hmk hmi hdiv hg
  go_loopw [18] (fun i wr => ∃ j : Nat, j ≤ n ∧ i = .int .i64 (j : Int) ∧ RowKit.Hid (RS w wr g A cap l n j)) (fun i _ => n - (intOf i).toNat)
  case atStart => exact ⟨0, by omega, rfl, HRS⟩
  case round =>
    clear HRS
    obtain ⟨j, hj, rfl, HRS⟩ := hrel
    by_cases hlt : j < n
    · as_aux_lemma =>
      have hu2 : 2 * j < l.length := by have := HNN.out; omega
      obtain ⟨b, o, X, A', c', rfl, -, hbl, hX, mX, x0, x1, x2, x3, hx⟩ := (HB.out.keep HRS.out.low).item (i := 2 * j) hu2
      have hX : l[2 * j]? = some X := hX
      have mX : X ∈ l := mX
      have hxb : X.bulk ≤ 1099511627776 := Nat.le_trans (bulk_mem_le mX) (HBK.out ())
      have HL := Lib.hid (fun W' (hb : Below wr.heap.size wr W') => lay_alone (okEL_iff.1 HOK.out X mX) hxb (Nat.le_trans (Nat.le_of_lt HRS.out.bi.lt) hb.size) (hx.keep (hb.mono (Nat.le_of_lt HRS.out.bi.lt))))
      have ck : wr.cell? ⟨g + 2, 0, none⟩ = some (.slice (some ⟨g + 1, 0, none⟩) n n) := by rw [HRS.out.bk.cell]; rfl
      have ci : wr.cell? ⟨g, 0, none⟩ = some (.slice (some ⟨b, o, none⟩) m cap) := by rw [HRS.out.bi.cell, HM.out]; rfl
      obtain ⟨u, hu⟩ : ∃ u, 2 * j = u := ⟨_, rfl⟩
      have hml := HM.out
      have q1 : IntKind.i64.wrap (2 * (j : Int)) = (u : Int) := by rw [IntWalk.i64_in _ (by omega)]; omega
      have hum : (u : Int) < m := by have := HM.out; omega
      have hji : (j : Int) < n := by omega
      rw [hu] at x0 x1 x2 x3
      have HX := Lib.hid hX
      have HD := Lib.hid (show Below wr.heap.size wr wr.drew from (Below.refl _ _).drew)
      have HCK := Lib.hid ck
      have hfol : Tryz.prog.follows Departure.mixedOrders = true := by kernel_rfl
      have e1 : wrap64 ((j : Int) + 1) = (j : Int) + 1 := by clear q1; unfold wrap64; omega
      clear hX mX hxb hx hu2 hbl hu hml
      go_wp2_with fail
      go_region_with (go_at_call 27; refine (HL.out _ HD.out).mono ?_; rintro e w5 ⟨Av, cv, rfl, ho, hb⟩; have hb5 := HD.out.trans hb; obtain ⟨⟨k5, kc5⟩, kf5, ⟨p5, pc5⟩, pf5⟩ := (HRS.out.on hb5).cells hlt; have ck5 := (HRS.out.on hb5).bk.cell 0; have HO5 := Lib.hid ho; have HB5 := Lib.hid hb5; clear ho hb hb5)
      all_goals
        have hstep := RS.step (HRS.out.on HB5.out) hlt HX.out HO5.out (show g + 4 ≤ wr.heap.size from HRS.out.bp.lt)
        have HST := Lib.hid hstep
        clear hstep kc5 kf5 pf5 pc5 ck5
        go_wp2_with fail
        rw [e1]
        clear q1 e1
        go_roundw
        case rel => exact ⟨j + 1, by omega, by simp, HST⟩
        case measure => simp [intOf]; omega
    · have hjn : j = n := by omega
      subst hjn
      have hsz4 : g + 4 ≤ wr.heap.size := HRS.out.bp.lt
      have hsrt := sort_any (HRS.out.ck HNN.out HB.out) HOK.out (HBK.out ()) HEV.out HNN.out (by rw [← ints_all]; exact HRS.out.bp)
      have HS := Lib.hid hsrt
      have ck : wr.cell? ⟨g + 2, 0, none⟩ = some (.slice (some ⟨g + 1, 0, none⟩) j j) := by rw [HRS.out.bk.cell]; rfl
      clear hsrt
      clear hsz4 hj hlt
      go_wp2_with fail
      refine HS.out.mono ?_
      rintro e w2 ⟨rfl, d, hd, ho, hc, hn⟩
      have ci2 : w2.cell? ⟨g, 0, none⟩ = some (.slice A m cap) := by rw [(HRS.out.bi.only hn (by omega)).cell, HM.out]; rfl
      obtain ⟨w3, hr3, ho3, hb3⟩ := make_itemsS S m w2 (by omega)
      have HD := Lib.hid hd
      have HO := Lib.hid ho
      have HC := Lib.hid hc
      have HW := Lib.hid hn
      have HO3 := Lib.hid ho3
      have HB3 := Lib.hid hb3
      clear hd ho hc hn ho3 hb3 ck
      go_wp2_with fail
      clear HS hr3
      obtain ⟨B, hBdef⟩ : ∃ B, w2.heap.size = B := ⟨_, rfl⟩
      rw [hBdef] at HO3 HB3
      have HBD := Lib.hid hBdef
      have HGB := Lib.hid (show g + 4 ≤ B by rw [← hBdef]; exact Nat.le_trans HRS.out.bp.lt HW.out.size)
      have HLOW := Lib.hid (HRS.out.low.trans (HW.out.below (Nat.le_add_right g 3) (Nat.le_of_lt HRS.out.bi.lt)))
      rw [hBdef]
      clear hBdef ci2
      go_loopw [6, 43] (fun v i wr => ∃ k : Nat, k ≤ j ∧ i = .int .i64 (k : Int) ∧ RowKit.Hid (OwnS wr S B v (outP (d.take k))) ∧ RowKit.Hid (Below B w2 wr)) (fun _ i _ => j - (intOf i).toNat)
      case atStart => exact ⟨0, Nat.zero_le _, rfl, HO3, HB3⟩
      case round =>
        clear HO3 HB3
        obtain ⟨k, hk, rfl, HV, HBW⟩ := hrel
        by_cases hlt : k < j
        · obtain ⟨x, hx⟩ : ∃ x, d[k]? = some x := ⟨d[k]'(by have := HD.out; omega), List.getElem?_eq_getElem _⟩
          have hg2 : ∀ {q}, q < g + 4 → wr.heap[q]? = w2.heap[q]? := fun hq => HBW.out.block _ (Nat.lt_of_lt_of_le hq HGB.out)
          have cp : wr.cell? ⟨g + 3, k, none⟩ = some (.int .i64 (x.i : Int)) := cell_kept' (hg2 (by show g + 3 < g + 4; omega)) (HC.out k x hx)
          have ci : wr.cell? ⟨g, 0, none⟩ = some (.slice A m cap) := cell_kept' (hg2 (by show g < g + 4; omega)) (by rw [(HRS.out.bi.only HW.out (by omega)).cell, HM.out]; rfl)
          have hat : AtS wr S (.mk 0 0 ⟨#[]⟩ l) A cap := HSA.out.keep HSS.out (HLOW.out.trans (HBW.out.mono (by have := HGB.out; omega)))
          have hxi := x.hi
          have hev := HEV.out
          have hml := HM.out
          have hjl := HNN.out
          obtain ⟨b, o, X, A1, c1, ea, hbs, hb, hX, mX, x0, x1, x2, x3, hx1⟩ := hat.item (i := 2 * x.i) (show 2 * x.i < l.length by omega)
          obtain ⟨b', o', Y, A2, c2, ea', -, hb', hY, mY, y0, y1, y2, y3, hy1⟩ := hat.item (i := 2 * x.i + 1) (show 2 * x.i + 1 < l.length by omega)
          rw [ea] at ea'
          injection ea' with ea'
          injection ea' with eb eo
          subst eb eo
          have hbg : b < g := HSS.out b hbs
          clear hbs
          have eX : X = x.a := Option.some.inj (hX.symm.trans x.ha)
          have eY : Y = x.b := Option.some.inj (hY.symm.trans x.hb)
          have hBw : B ≤ wr.heap.size := Nat.le_trans (Nat.le_of_eq HBD.out.symm) HBW.out.size
          have hSw : ∀ b, S b → b < wr.heap.size := fun b hb => Nat.lt_of_lt_of_le (HSS.out b hb) (by have := HGB.out; omega)
          have hdr : Below wr.heap.size wr wr.drew := (Below.refl _ _).drew
          obtain ⟨wq, v', w3', hwq, hr, ho3, hb3⟩ := two_push (n := g) (HV.out.keepB hdr hSw) (hx1.keep hSw hdr) (hy1.keep hSw hdr) hBw HSS.out (by have := HGB.out; omega) (by have := outP_take d k; have := bulk_length l; have := HBK.out (); omega)
          clear hSw hdr hBw
          obtain ⟨u, hu⟩ : ∃ u, 2 * x.i = u := ⟨_, rfl⟩
          obtain ⟨v, hv⟩ : ∃ v, u + 1 = v := ⟨_, rfl⟩
          have hum : (u : Int) < m := by omega
          have hvm : (v : Int) < m := by omega
          have hki : (k : Int) < j := Int.ofNat_lt.2 hlt
          have q1 : IntKind.i64.wrap (2 * (x.i : Int)) = (u : Int) := by rw [IntWalk.i64_in _ (by omega)]; omega
          have q2 : IntKind.i64.wrap ((u : Int) + 1) = (v : Int) := by rw [IntWalk.i64_in _ (by omega)]; omega
          have e1 : wrap64 ((k : Int) + 1) = (k : Int) + 1 := by unfold wrap64; omega
          rw [hu] at x0 x1 x2 x3 y0 y1 y2 y3
          rw [hv] at y0 y1 y2 y3
          have HXX := Lib.hid hx
          have HEX := Lib.hid eX
          have HEY := Lib.hid eY
          have HRA := Lib.hid hr
          have HO3 := Lib.hid ho3
          have HB3 := Lib.hid hb3
          have HGQ := Lib.hid (show b < B from Nat.lt_of_lt_of_le hbg (by have := HGB.out; omega))
          have HBS := Lib.hid (show B ≤ wr.heap.size from Nat.le_trans (Nat.le_of_eq HBD.out.symm) HBW.out.size)
          clear hbg hx hg2 hxi hev hml hjl eX eY hr ho3 hb3 hX hY mX mY hx1 hy1 hb hb' hat hu hv hlt hk
          subst ea
          go_wp2_with fail
          have cHq : wq.cell? ⟨g, 0, none⟩ = some (.slice (some ⟨b, o, none⟩) m cap) ∧ wq.cell? ⟨b, o + u * 4, none⟩ = some (.int .i64 X.k) ∧ wq.cell? ⟨b, o + u * 4 + 1, none⟩ = some (.int .u64 X.n) ∧ wq.cell? ⟨b, o + u * 4 + 2, none⟩ = some (.string X.s) ∧ wq.cell? ⟨b, o + u * 4 + 3, none⟩ = some (.slice A1 X.l.length c1) ∧ wq.cell? ⟨b, o + v * 4, none⟩ = some (.int .i64 Y.k) ∧ wq.cell? ⟨b, o + v * 4 + 1, none⟩ = some (.int .u64 Y.n) ∧ wq.cell? ⟨b, o + v * 4 + 2, none⟩ = some (.string Y.s) ∧ wq.cell? ⟨b, o + v * 4 + 3, none⟩ = some (.slice A2 Y.l.length c2) := by
            have hbq : Below wr.heap.size wr wq := by rw [← hwq]; exact (Below.refl _ _).drew.alloc (Nat.le_refl _) _
            have hq := HGQ.out
            have hws := HBS.out
            refine ⟨cell_kept' (hbq.block _ (by have := HGB.out; omega)) ci, ?_, ?_, ?_, ?_, ?_, ?_, ?_, ?_⟩
            all_goals (refine cell_kept' (hbq.block _ (by omega)) ?_; assumption)
          have cH3 : w3'.cell? ⟨g, 0, none⟩ = some (.slice (some ⟨b, o, none⟩) m cap) ∧ w3'.cell? ⟨b, o + u * 4, none⟩ = some (.int .i64 X.k) ∧ w3'.cell? ⟨b, o + u * 4 + 1, none⟩ = some (.int .u64 X.n) ∧ w3'.cell? ⟨b, o + u * 4 + 2, none⟩ = some (.string X.s) ∧ w3'.cell? ⟨b, o + u * 4 + 3, none⟩ = some (.slice A1 X.l.length c1) ∧ w3'.cell? ⟨b, o + v * 4, none⟩ = some (.int .i64 Y.k) ∧ w3'.cell? ⟨b, o + v * 4 + 1, none⟩ = some (.int .u64 Y.n) ∧ w3'.cell? ⟨b, o + v * 4 + 2, none⟩ = some (.string Y.s) ∧ w3'.cell? ⟨b, o + v * 4 + 3, none⟩ = some (.slice A2 Y.l.length c2) := by
            have hq := HGQ.out
            refine ⟨cell_kept' (HB3.out.block _ (by have := HGB.out; omega)) ci, ?_, ?_, ?_, ?_, ?_, ?_, ?_, ?_⟩
            all_goals (refine cell_kept' (HB3.out.block _ (by omega)) ?_; assumption)
          go_region_held3 (fun w' => w'.cell? ⟨g, 0, none⟩ = some (.slice (some ⟨b, o, none⟩) m cap) ∧ w'.cell? ⟨b, o + u * 4, none⟩ = some (.int .i64 X.k) ∧ w'.cell? ⟨b, o + u * 4 + 1, none⟩ = some (.int .u64 X.n) ∧ w'.cell? ⟨b, o + u * 4 + 2, none⟩ = some (.string X.s) ∧ w'.cell? ⟨b, o + u * 4 + 3, none⟩ = some (.slice A1 X.l.length c1) ∧ w'.cell? ⟨b, o + v * 4, none⟩ = some (.int .i64 Y.k) ∧ w'.cell? ⟨b, o + v * 4 + 1, none⟩ = some (.int .u64 Y.n) ∧ w'.cell? ⟨b, o + v * 4 + 2, none⟩ = some (.string Y.s) ∧ w'.cell? ⟨b, o + v * 4 + 3, none⟩ = some (.slice A2 Y.l.length c2)) (first | go_keep | exact cHq | exact cH3) ((refine step_append_run rfl rfl HRA.out rfl rfl ?_))
          all_goals
            clear cHq cH3
            go_wp2_with fail
            rw [e1]
            clear q1 q2 e1
            go_roundw
            case rel =>
              refine ⟨k + 1, by omega, by simp, Lib.hid ?_, Lib.hid (HBW.out.trans ((Below.refl B wr).drew.trans HB3.out))⟩
              rw [outP_more HXX.out, ← HEX.out, ← HEY.out]
              exact HO3.out
            case measure => simp [intOf]; omega
        · have hkj : k = j := by omega
          subst hkj
          have hall : d.take k = d := List.take_of_length_le (by rw [HD.out]; exact Nat.le_refl _)
          have hv := HV.out
          rw [hall, HO.out] at hv
          obtain ⟨A', c', rfl, h1, h2, h3⟩ := hv.hand (T := fun b => S b ∨ g ≤ b) (fun b hb => .inr (by have := HGB.out; omega)) (fun b hb => .inl hb)
          have hlen : (risen l).length = m := by rw [(risen_perm HEV.out).length_eq, HM.out]
          rw [hlen] at h1 ⊢
          have H1 := Lib.hid h1
          have H2 := Lib.hid h2
          have H3 := Lib.hid h3
          have HFB := Lib.hid (HLOW.out.trans (HBW.out.mono (Nat.le_trans (Nat.le_add_right g 4) HGB.out)))
          clear h1 h2 h3 hv hall hlen hk hlt
          go_wp2_with fail
          go_ret
          exact ⟨A', c', rfl, H1.out, H2.out, by rw [HG.out]; exact H3.out, by rw [HG.out]; exact HFB.out⟩
end Go.Proofs.YtgbbgdjdomkohaaGreat

/- Package enc: a clone's items, the first of them sorted. -/
namespace Go.Proofs.YtgbbgdjdomkohaaGreat
open Go.RowKit Go.Sort

section
variable {w w' : World} {S : Nat → Prop} {gq g0 c1 j : Nat} {l : List It}
theorem LayS.keep2 (hk : ∀ b, S b → b < w.heap.size → w'.heap[b]? = w.heap[b]?) : ∀ {its : List It} {cs : List Value}, LayS w S its cs → LayS w' S its cs
  | [], _, h => h
  | _ :: _, _, ⟨A, cap, c, e, h1, h2⟩ => ⟨A, cap, c, e, ⟨h1.le, h1.nil, AtL.keep hk (fun _ h => h) _ _ h1.at_⟩, LayS.keep2 hk h2⟩
/-- The clone lies in block gq: the first j items sorted, with lists made behind it; the others as they were. -/
def Half (w : World) (gq g0 c1 : Nat) (l : List It) (j : Nat) : Prop :=
  ∃ a b t : List Value, Blk w gq 31 (a ++ (b ++ t)).toArray ∧ (a ++ (b ++ t)).length = c1 * 4 ∧ LayS w (gq < ·) ((srtL l).take j) a ∧ LayS w (· < g0) (l.drop j) b
theorem Half.on (h : Half w gq g0 c1 l j) (hb : Below w.heap.size w w') : Half w' gq g0 c1 l j := by
  obtain ⟨a, b, t, h1, h2, h3, h4⟩ := h
  exact ⟨a, b, t, h1.on hb, h2, h3.keep2 fun i _ hi => hb.block i hi, h4.keep2 fun i _ hi => hb.block i hi⟩
theorem Half.lt (h : Half w gq g0 c1 l j) : gq < w.heap.size := by
  obtain ⟨a, b, t, h1, _⟩ := h
  exact h1.lt
/-- A clone of items. -/
theorem OwnI.half {B : Nat} (h : OwnI w g0 B (.slice (some ⟨gq, 0, none⟩) l.length c1) l) : Half w gq g0 c1 l 0 := by
  obtain ⟨cs, h1, h2⟩ := h.toS
  obtain ⟨cur, k1, _, k2, _, k3, k4⟩ := oc_blk h1
  refine ⟨[], cs, cur.toList.drop (l.length * 4), ?_, ?_, rfl, by simpa using h2⟩
  · rw [List.nil_append, ← k4, List.take_append_drop]
    exact k1
  · rw [List.nil_append, ← k4, List.take_append_drop, Array.length_toList, k3]
/-- Item number j, as it was. -/
theorem Half.get (h : Half w gq g0 c1 l j) {X : It} (hX : l[j]? = some X) : ∃ A c, w.cell? ⟨gq, j * 4, none⟩ = some (.int .i64 X.k) ∧ w.cell? ⟨gq, j * 4 + 1, none⟩ = some (.int .u64 X.n) ∧ w.cell? ⟨gq, j * 4 + 2, none⟩ = some (.string X.s) ∧ w.cell? ⟨gq, j * 4 + 3, none⟩ = some (.slice A X.l.length c) ∧ AtS w (· < g0) X A c := by
  obtain ⟨a, b, t, h1, h2, h3, h4⟩ := h
  have hj : j < l.length := by
    rcases Nat.lt_or_ge j l.length with h | h
    · exact h
    · rw [List.getElem?_eq_none h] at hX; cases hX
  have ha : a.length = j * 4 := by rw [h3.length, List.length_take, length_srtL]; omega
  obtain ⟨A, c, c0, c1', c2, c3, hat⟩ := h4.get (i := 0) (X := X) (by simpa using hX)
  have cell : ∀ i u, b[i]? = some u → w.cell? ⟨gq, j * 4 + i, none⟩ = some u := fun i u hu => by
    rw [h1.cell]
    simp only [List.getElem?_toArray]
    rw [List.getElem?_append_right (by omega), show j * 4 + i - a.length = i by omega]
    have hi : i < b.length := by
      rcases Nat.lt_or_ge i b.length with h | h
      · exact h
      · rw [List.getElem?_eq_none h] at hu; cases hu
    rw [List.getElem?_append_left hi, hu]
  exact ⟨A, c, cell 0 _ c0, cell 1 _ c1', cell 2 _ c2, cell 3 _ c3, hat⟩
/-- It is sorted. -/
theorem Half.step (h : Half w gq g0 c1 l j) {X : It} (hX : l[j]? = some X) {A : Option Addr} {c : Nat} (hat : AtS w (gq < ·) X.srt A c) (h0 : g0 ≤ gq) :
    ∃ w', (Instr.storeAt 31 (.pointer (some ⟨gq, j * 4, none⟩)) (.agg #[.int .i64 X.srt.k, .int .u64 X.srt.n, .string X.srt.s, .slice A X.srt.l.length c])).run Tryz.prog w = .ok () w' ∧ Half w' gq g0 c1 l (j + 1) ∧ Only gq w w' := by
  obtain ⟨a, b, t, h1, h2, h3, h4⟩ := h
  have hj : j < l.length := by
    rcases Nat.lt_or_ge j l.length with h | h
    · exact h
    · rw [List.getElem?_eq_none h] at hX; cases hX
  have ha : a.length = j * 4 := by rw [h3.length, List.length_take, length_srtL]; omega
  have hd : l.drop j = X :: l.drop (j + 1) := by
    rw [List.drop_eq_getElem_cons hj]
    rw [List.getElem?_eq_getElem hj] at hX
    injection hX with hX
    rw [hX]
  rw [hd] at h4
  obtain ⟨A0, cap0, b', rfl, k1, k2⟩ := h4
  have hs := run_store_blk (P := Tryz.prog) (ty := 31) (a := a.toArray) (c := (ic X A0 cap0).toArray) (c' := #[.int .i64 X.srt.k, .int .u64 X.srt.n, .string X.srt.s, .slice A X.srt.l.length c]) (b := (b' ++ t).toArray) (o := j * 4) h1 (by simp) (by simpa using ha) (by kernel_rfl) (by simp [ic]) (by simp [Value.oneCell'])
  have ho := (Only.refl gq w).setRow (a.toArray ++ #[.int .i64 X.srt.k, .int .u64 X.srt.n, .string X.srt.s, .slice A X.srt.l.length c] ++ (b' ++ t).toArray)
  refine ⟨_, hs, ?_, ho⟩
  have hk : ∀ (S : Nat → Prop), (∀ b, S b → b ≠ gq) → ∀ b, S b → b < w.heap.size → (w.setRow gq (a.toArray ++ #[.int .i64 X.srt.k, .int .u64 X.srt.n, .string X.srt.s, .slice A X.srt.l.length c] ++ (b' ++ t).toArray)).heap[b]? = w.heap[b]? := fun S hS b hb hl => ho.block b hl (fun e => hS b hb (by injection e))
  refine ⟨a ++ ic X.srt A c, b', t, ?_, ?_, ?_, ?_⟩
  · have := h1.setRow (a.toArray ++ #[.int .i64 X.srt.k, .int .u64 X.srt.n, .string X.srt.s, .slice A X.srt.l.length c] ++ (b' ++ t).toArray)
    rw [show (a ++ ic X.srt A c ++ (b' ++ t)).toArray = a.toArray ++ #[.int .i64 X.srt.k, .int .u64 X.srt.n, .string X.srt.s, .slice A X.srt.l.length c] ++ (b' ++ t).toArray by simp [ic]]
    exact this
  · rw [← h2]
    simp [ic]
  · have e : (srtL l).take (j + 1) = (srtL l).take j ++ [X.srt] := by
      rw [List.take_add_one, srtL_map, List.getElem?_map, hX]
      rfl
    rw [e]
    have h3' := h3.append (LayS.one hat)
    exact h3'.keep2 (hk _ fun b hb => Nat.ne_of_gt hb)
  · exact k2.keep2 (hk _ fun b hb => Nat.ne_of_lt (Nat.lt_of_lt_of_le hb h0))
theorem set4 (a r : List Value) (x0 x1 x2 x3 u0 u1 u2 u3 : Value) (n : Nat) (h : a.length = n) : ((((a ++ (x0 :: x1 :: x2 :: x3 :: r)).toArray.setIfInBounds n u0).setIfInBounds (n + 1) u1).setIfInBounds (n + 2) u2).setIfInBounds (n + 3) u3 = (a ++ (u0 :: u1 :: u2 :: u3 :: r)).toArray := by
  subst h
  simp
theorem only_cell (w : World) (g o : Nat) (u : Value) : Only g w (w.setCell ⟨g, o, none⟩ u) := ⟨rfl, rfl, rfl, by simp [World.setCell], fun i _ hne => Below.heap_setCell _ _ _ _ (fun e => hne (by rw [e]))⟩
/-- The same, cell by cell. -/
theorem Half.step4 (h : Half w gq g0 c1 l j) {X : It} (hX : l[j]? = some X) {A : Option Addr} {c : Nat} (hat : AtS w (gq < ·) X.srt A c) (h0 : g0 ≤ gq) :
    Half ((((w.setCell ⟨gq, j * 4, none⟩ (.int .i64 X.srt.k)).setCell ⟨gq, j * 4 + 1, none⟩ (.int .u64 X.srt.n)).setCell ⟨gq, j * 4 + 2, none⟩ (.string X.srt.s)).setCell ⟨gq, j * 4 + 3, none⟩ (.slice A X.srt.l.length c)) gq g0 c1 l (j + 1) ∧
      Only gq w ((((w.setCell ⟨gq, j * 4, none⟩ (.int .i64 X.srt.k)).setCell ⟨gq, j * 4 + 1, none⟩ (.int .u64 X.srt.n)).setCell ⟨gq, j * 4 + 2, none⟩ (.string X.srt.s)).setCell ⟨gq, j * 4 + 3, none⟩ (.slice A X.srt.l.length c)) := by
  have ho := (((only_cell w gq (j * 4) (.int .i64 X.srt.k)).trans (only_cell _ gq (j * 4 + 1) (.int .u64 X.srt.n))).trans (only_cell _ gq (j * 4 + 2) (.string X.srt.s))).trans (only_cell _ gq (j * 4 + 3) (.slice A X.srt.l.length c))
  refine ⟨?_, ho⟩
  obtain ⟨a, b, t, h1, h2, h3, h4⟩ := h
  have hj : j < l.length := by
    rcases Nat.lt_or_ge j l.length with h | h
    · exact h
    · rw [List.getElem?_eq_none h] at hX; cases hX
  have ha : a.length = j * 4 := by rw [h3.length, List.length_take, length_srtL]; omega
  have hd : l.drop j = X :: l.drop (j + 1) := by
    rw [List.drop_eq_getElem_cons hj]
    rw [List.getElem?_eq_getElem hj] at hX
    injection hX with hX
    rw [hX]
  rw [hd] at h4
  obtain ⟨A0, cap0, b', rfl, k1, k2⟩ := h4
  have hb := (((h1.put (j * 4) (.int .i64 X.srt.k)).put (j * 4 + 1) (.int .u64 X.srt.n)).put (j * 4 + 2) (.string X.srt.s)).put (j * 4 + 3) (.slice A X.srt.l.length c)
  generalize ((((w.setCell ⟨gq, j * 4, none⟩ (.int .i64 X.srt.k)).setCell ⟨gq, j * 4 + 1, none⟩ (.int .u64 X.srt.n)).setCell ⟨gq, j * 4 + 2, none⟩ (.string X.srt.s)).setCell ⟨gq, j * 4 + 3, none⟩ (.slice A X.srt.l.length c)) = W at *
  have hk : ∀ (S : Nat → Prop), (∀ b, S b → b ≠ gq) → ∀ b, S b → b < w.heap.size → W.heap[b]? = w.heap[b]? := fun S hS b hb hl => ho.block b hl (fun e => hS b hb (by injection e))
  have e4 := set4 a (b' ++ t) (.int .i64 X.k) (.int .u64 X.n) (.string X.s) (.slice A0 X.l.length cap0) (.int .i64 X.srt.k) (.int .u64 X.srt.n) (.string X.srt.s) (.slice A X.srt.l.length c) (j * 4) ha
  have e5 : (a ++ (ic X A0 cap0 ++ b' ++ t)) = a ++ (.int .i64 X.k :: .int .u64 X.n :: .string X.s :: .slice A0 X.l.length cap0 :: (b' ++ t)) := by simp [ic]
  rw [e5, e4] at hb
  refine ⟨a ++ ic X.srt A c, b', t, ?_, ?_, ?_, ?_⟩
  · rw [show a ++ ic X.srt A c ++ (b' ++ t) = a ++ (.int .i64 X.srt.k :: .int .u64 X.srt.n :: .string X.srt.s :: .slice A X.srt.l.length c :: (b' ++ t)) by simp [ic]]
    exact hb
  · rw [← h2]
    simp [ic]
  · have e : (srtL l).take (j + 1) = (srtL l).take j ++ [X.srt] := by
      rw [List.take_add_one, srtL_map, List.getElem?_map, hX]
      rfl
    rw [e]
    have h3' := h3.append (LayS.one hat)
    exact h3'.keep2 (hk _ fun b hb => Nat.ne_of_gt hb)
  · exact k2.keep2 (hk _ fun b hb => Nat.ne_of_lt (Nat.lt_of_lt_of_le hb h0))
/-- All are. -/
theorem Half.done (h : Half w gq g0 c1 l l.length) {T : Nat → Prop} (hT : ∀ b, gq ≤ b → T b) : AtL w T (srtL l) (some ⟨gq, 0, none⟩) := by
  have hlt := h.lt
  obtain ⟨a, b, t, h1, h2, h3, h4⟩ := h
  rw [List.take_of_length_le (by rw [length_srtL]; exact Nat.le_refl _)] at h3
  refine AtL.of_items (hT _ (Nat.le_refl _)) hlt (srtL l) 0 fun i X hX => ?_
  obtain ⟨A, c, c0, c1', c2, c3, hat⟩ := h3.get hX
  have cell : ∀ i u, a[i]? = some u → w.cell? ⟨gq, i, none⟩ = some u := fun i u hu => by
    rw [h1.cell]
    simp only [List.getElem?_toArray]
    have hi : i < a.length := by
      rcases Nat.lt_or_ge i a.length with h | h
      · exact h
      · rw [List.getElem?_eq_none h] at hu; cases hu
    rw [List.getElem?_append_left hi, hu]
  simp only [Nat.zero_add]
  exact At1.mk A c (cell _ _ c0) (cell _ _ c1') (cell _ _ c2) (cell _ _ c3) hat.le hat.nil (hat.at_.more fun b hb => hT b (Nat.le_of_lt hb))
end
end Go.Proofs.YtgbbgdjdomkohaaGreat
