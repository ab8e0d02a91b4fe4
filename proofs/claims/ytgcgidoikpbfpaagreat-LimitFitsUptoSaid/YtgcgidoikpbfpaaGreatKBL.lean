/- The document's limits: Key, Right, Fits; package limit's Key. -/
import Derived.Test.YtgcgidoikpbfpaaGreatKBK
namespace Go.Proofs.YtgcgidoikpbfpaaGreat
open Go.RowKit Go.Sort

set_option maxRecDepth 100000 in
set_option maxHeartbeats 4000000 in
theorem ref_Key : ∀ (c : Nat) (x : It) (A : Option Addr) (cap n : Nat) (w : World), x.count ≤ c → x.okE → x.bulk ≤ 1000000000 → n ≤ w.heap.size → AtB w n x A cap →
    Calls Tryz.prog 7 #[vI x A cap] w fun e w' => e = .returned (.int .i64 (x.lkey : Int)) ∧ Below w.heap.size w w' := by
  intro c
  induction c with
  | zero => intro x A cap n w h; have := count_pos x; omega
  | succ c ih =>
    intro x A cap n w hc hok hsz hn h
    simp only [vI] at ih
    have IH := Lib.hid ih
    clear ih
    have hll : x.l.length ≤ 1000000000 := by
      obtain ⟨k, nn, s, l⟩ := x
      have h1 := bulk_length l
      rw [It.bulk] at hsz
      show l.length ≤ _
      omega
    obtain ⟨w1, hw1, b1, S⟩ := iblk1 w 25 #[.int .i64 x.k, .int .u64 x.n, .string x.s, .slice A x.l.length cap]
    obtain ⟨p0, p1, p2, p3, -⟩ := iblk b1
    have HLK : RowKit.Hid (x.lkey = lkeyL (decide (x.k = 5)) true x.l) := Lib.hid x.lkey_eq
    have HS := Lib.hid S
    have HB1 := Lib.hid b1
    have HH := Lib.hid h
    have HN := Lib.hid hn
    have HOK := Lib.hid (fun (X : It) (mX : X ∈ x.l) => okEL_iff.1 ((It.okE_eq _).1 hok).2 X mX)
    have HSZ := Lib.hid (fun _ : Unit => hsz)
    have HCC := Lib.hid (fun _ : Unit => hc)
    have hml : (x.l.length : Int) < 1000000001 := by omega
    clear S b1 h hn hok hsz hc hll
    simp only [vI] at ⊢
    generalize x.lkey = LK at *
    obtain ⟨m, hm⟩ : ∃ m, x.l.length = m := ⟨_, rfl⟩
    rw [hm] at hml p3 hw1 HB1 ⊢
    have HM := Lib.hid hm
    obtain ⟨k, hk⟩ : ∃ k, x.k = k := ⟨_, rfl⟩
    rw [hk] at p0 hw1 HB1 HLK ⊢
    obtain ⟨bb, hbb⟩ : ∃ bb, decide (k = 5) = bb := ⟨_, rfl⟩
    rw [hbb] at HLK
    have HKB := Lib.hid hbb
    clear hm hk hbb
    go_enter Tryz.func7, Tryz.ntmps7
    go_wp2_with fail
    go_loopw [3, 4] (fun nv i wr => ∃ j : Nat, j ≤ m ∧ i = .int .i64 (j : Int) ∧ nv = .int .i64 ((lkeyL bb true (x.l.take j) : Nat) : Int) ∧ RowKit.Hid (Below w.heap.size w wr) ∧ RowKit.Hid (Blk wr w.heap.size 25 #[.int .i64 k, .int .u64 x.n, .string x.s, .slice A m cap])) (fun _ i _ => m - (intOf i).toNat)
    case atStart => exact ⟨0, by omega, rfl, by simp [lkeyL], HS, HB1⟩
    case round =>
      obtain ⟨j, hj, rfl, rfl, HB, HBK⟩ := hrel
      obtain ⟨y0, y1, y2, y3, -⟩ := iblk HBK.out
      by_cases hlt : j < m
      · as_aux_lemma =>
        have hbn := HB.out.mono HN.out
        obtain ⟨b, o, X, A', c', rfl, -, hb1, hX, mX, x0, x1, x2, x3, hx⟩ := (HH.out.keep hbn).item (i := j) (by show j < x.l.length; rw [HM.out]; exact hlt)
        have htk := (take_at hX).1
        have hcount : X.count ≤ c := by
          have h1 := count_le_of_mem mX
          have h2 := HCC.out ()
          rw [It.count_eq] at h2
          omega
        have hBr : w.heap.size ≤ wr.heap.size := HB.out.size
        have hoX := HOK.out X mX
        have hbX : X.bulk ≤ 1000000000 := Nat.le_trans (bulk_sub mX) (HSZ.out ())
        have hnX := fun (W : World) (hW : Below wr.heap.size wr W) => Nat.le_trans HN.out (Nat.le_trans hBr hW.size)
        have haX := fun (W : World) (hW : Below wr.heap.size wr W) => hx.keep (hW.mono (Nat.le_trans HN.out hBr))
        have C := fun (W : World) (hW : Below wr.heap.size wr W) => IH.out X A' c' n W hcount hoX hbX (hnX W hW) (haX W hW)
        have C2 := fun (W : World) (hW : Below wr.heap.size wr W) => ref_Put X.count X A' c' n W (Nat.le_refl _) hoX hbX (hnX W hW) (haX W hW)
        simp only [vI] at C2
        have hlen : (strOfNums X.renc).size = X.enc.length := by rw [strOfNums_size, renc_length X hoX]
        have hke := lkey_le X
        have HC := Lib.hid C
        have HC2 := Lib.hid C2
        have htl : (x.l.take j).length = j := by rw [List.length_take, HM.out]; omega
        have HTK := Lib.hid (show lkeyL bb true (x.l.take (j + 1)) = max (lkeyL bb true (x.l.take j)) (if (bb && (true == decide (j % 2 = 0))) = true then X.enc.length else X.lkey) by rw [htk, lkeyL_snoc, htl])
        obtain ⟨p, hp⟩ : ∃ p : Nat, lkeyL bb true (x.l.take j) = p := ⟨_, rfl⟩
        rw [hp] at HTK ⊢
        generalize X.enc.length = xe at *
        generalize X.lkey = xk at *
        generalize strOfNums X.renc = xs at *
        have HKE := Lib.hid hke
        have hji : (j : Int) < m := by omega
        have carry : ∀ W, Below wr.heap.size wr W → W.cell? ⟨b, o + j * 4, none⟩ = some (.int .i64 X.k) ∧ W.cell? ⟨b, o + j * 4 + 1, none⟩ = some (.int .u64 X.n) ∧ W.cell? ⟨b, o + j * 4 + 2, none⟩ = some (.string X.s) ∧ W.cell? ⟨b, o + j * 4 + 3, none⟩ = some (.slice A' X.l.length c') ∧ W.cell? ⟨w.heap.size, 3, none⟩ = some (.slice (some ⟨b, o, none⟩) m cap) := fun W hb =>
          ⟨(hb.cell (p := ⟨b, o + j * 4, none⟩) (block_lt_of_cell x0)).trans x0, (hb.cell (p := ⟨b, o + j * 4 + 1, none⟩) (block_lt_of_cell x1)).trans x1, (hb.cell (p := ⟨b, o + j * 4 + 2, none⟩) (block_lt_of_cell x2)).trans x2, (hb.cell (p := ⟨b, o + j * 4 + 3, none⟩) (block_lt_of_cell x3)).trans x3, (hb.cell (p := ⟨w.heap.size, 3, none⟩) (block_lt_of_cell y3)).trans y3⟩
        have HCY := Lib.hid carry
        have R := Lib.hid (Below.refl wr.heap.size wr)
        clear C C2 hcount hX mX htk hx hbn hp hoX hbX hnX haX htl hke carry
        by_cases hk5 : k = 5
        · obtain rfl : true = bb := by rw [← HKB.out, hk5]; rfl
          subst hk5
          by_cases hev : j % 2 = 0
          · have hevJ : (j : Int) % 2 = 0 := by omega
            have hcd : (true && (true == decide (j % 2 = 0))) = true := by simp [hev]
            go_wp2_with (first
              | (go_at_call 18; refine (HC2.out _ R.out).mono ?_; rintro e w6 ⟨rfl, hb⟩; obtain ⟨z0, z1, z2, z3, z4⟩ := HCY.out w6 hb; have HB6 := Lib.hid hb; clear hb)
              | (go_at_call 7; refine (HC.out _ HB6.out).mono ?_; rintro e w7 ⟨rfl, hb⟩; have HB7 := Lib.hid (HB6.out.trans (hb.mono HB6.out.size)); clear hb))
            go_roundw
            case rel =>
              refine ⟨j + 1, by omega, by simp, ?_, Lib.hid (HB.out.trans (HB7.out.mono hBr)), Lib.hid (HBK.out.on HB7.out)⟩
              rw [HTK.out, if_pos hcd]
              congr 1
              have := HKE.out
              omega
            case measure => simp [intOf]; omega
          · have hevJ : (j : Int) % 2 = 1 := by omega
            have hcd : ¬ (true && (true == decide (j % 2 = 0))) = true := by simp [hev]
            go_wp2_with (go_at_call 7; refine (HC.out _ R.out).mono ?_; rintro e w7 ⟨rfl, hb⟩; have HB7 := Lib.hid hb; clear hb)
            go_roundw
            case rel =>
              refine ⟨j + 1, by omega, by simp, ?_, Lib.hid (HB.out.trans (HB7.out.mono hBr)), Lib.hid (HBK.out.on HB7.out)⟩
              rw [HTK.out, if_neg hcd]
              congr 1
              omega
            case measure => simp [intOf]; omega
        · obtain rfl : false = bb := by rw [← HKB.out, decide_eq_false hk5]
          have hcd : ¬ (false && (true == decide (j % 2 = 0))) = true := by simp
          go_wp2_with (go_at_call 7; refine (HC.out _ R.out).mono ?_; rintro e w7 ⟨rfl, hb⟩; have HB7 := Lib.hid hb; clear hb)
          go_roundw
          case rel =>
            refine ⟨j + 1, by omega, by simp, ?_, Lib.hid (HB.out.trans (HB7.out.mono hBr)), Lib.hid (HBK.out.on HB7.out)⟩
            rw [HTK.out, if_neg hcd]
            congr 1
            omega
          case measure => simp [intOf]; omega
      · obtain rfl : j = m := by omega
        have hfull : x.l.take j = x.l := by rw [← HM.out, List.take_length]
        rw [hfull, ← HLK.out]
        clear hml
        go_wp2_with fail
        go_ret
        exact ⟨rfl, HB.out⟩

set_option maxRecDepth 100000 in
set_option maxHeartbeats 4000000 in
theorem ref_Right (d k s : Int) (w : World) : Calls Tryz.prog 9 #[vL d k s] w fun e w' => e = .returned (.bool (rightL d k s)) ∧ Below w.heap.size w w' := by
  obtain ⟨w1, hw1, b1, S⟩ := iblk1 w 27 #[.int .i64 d, .int .i64 k, .int .i64 s]
  obtain ⟨p0, p1, p2⟩ := lblk b1
  have HS := Lib.hid S
  have HR : RowKit.Hid (rightL d k s = (decide (1 ≤ d) && decide (d ≤ 64) && (decide (1 ≤ k) && decide (k ≤ 1024)) && (decide (1 ≤ s) && decide (s ≤ 2305843009213693951)))) := Lib.hid rfl
  unfold vL
  generalize rightL d k s = R at *
  clear S b1
  by_cases h1 : 1 ≤ d
  · by_cases h2 : d ≤ 64
    · by_cases h3 : 1 ≤ k
      · by_cases h4 : k ≤ 1024
        · by_cases h5 : 1 ≤ s
          · by_cases h6 : s ≤ 2305843009213693951
            · have HR' : R = true := by rw [HR.out, decide_eq_true h1, decide_eq_true h2, decide_eq_true h3, decide_eq_true h4, decide_eq_true h5, decide_eq_true h6]; rfl
              subst HR'
              clear HR
              go_enter Tryz.func9, Tryz.ntmps9
              go_wp2_with fail
              go_ret
              exact ⟨rfl, HS.out⟩
            · have HR' : R = false := by rw [HR.out, decide_eq_true h1, decide_eq_true h2, decide_eq_true h3, decide_eq_true h4, decide_eq_true h5, decide_eq_false h6]; rfl
              subst HR'
              clear HR
              go_enter Tryz.func9, Tryz.ntmps9
              go_wp2_with fail
              go_ret
              exact ⟨rfl, HS.out⟩
          · have HR' : R = false := by rw [HR.out, decide_eq_true h1, decide_eq_true h2, decide_eq_true h3, decide_eq_true h4, decide_eq_false h5]; rfl
            subst HR'
            clear HR
            go_enter Tryz.func9, Tryz.ntmps9
            go_wp2_with fail
            go_ret
            exact ⟨rfl, HS.out⟩
        · have HR' : R = false := by rw [HR.out, decide_eq_true h1, decide_eq_true h2, decide_eq_true h3, decide_eq_false h4]; rfl
          subst HR'
          clear HR
          go_enter Tryz.func9, Tryz.ntmps9
          go_wp2_with fail
          go_ret
          exact ⟨rfl, HS.out⟩
      · have HR' : R = false := by rw [HR.out, decide_eq_true h1, decide_eq_true h2, decide_eq_false h3]; rfl
        subst HR'
        clear HR
        go_enter Tryz.func9, Tryz.ntmps9
        go_wp2_with fail
        go_ret
        exact ⟨rfl, HS.out⟩
    · have HR' : R = false := by rw [HR.out, decide_eq_true h1, decide_eq_false h2]; rfl
      subst HR'
      clear HR
      go_enter Tryz.func9, Tryz.ntmps9
      go_wp2_with fail
      go_ret
      exact ⟨rfl, HS.out⟩
  · have HR' : R = false := by rw [HR.out, decide_eq_false h1]; rfl
    subst HR'
    clear HR
    go_enter Tryz.func9, Tryz.ntmps9
    go_wp2_with fail
    go_ret
    exact ⟨rfl, HS.out⟩
theorem limit_Key (x : It) (A : Option Addr) (cap n : Nat) (w : World) (hx : okI 1048576 x) (hb : x.bulk ≤ 1099511627776) (hn : n ≤ w.heap.size) (h : AtB w n x A cap) :
    Calls Tryz.prog 10 #[vI x A cap] w fun e w' => e = .returned (.int .i64 (if checkR wrongI x = 0 then (x.lkey : Int) else 0)) ∧ Below w.heap.size w w' := by
  obtain ⟨w1, hw1, b1, S⟩ := iblk1 w 25 #[.int .i64 x.k, .int .u64 x.n, .string x.s, .slice A x.l.length cap]
  obtain ⟨p0, p1, p2, p3, -⟩ := iblk b1
  obtain ⟨r, hr⟩ : ∃ r, checkR wrongI x = r := ⟨_, rfl⟩
  have hC := item_CheckW x A cap n w1 hx (Nat.le_trans hn S.size) (h.keep (S.mono hn))
  have hX := fun (w' : World) (hb' : Below w.heap.size w w') (hz : r = 0) => limit_longest x.count x A cap n w' (Nat.le_refl _) hx (hr.trans hz) hb (Nat.le_trans hn hb'.size) (h.keep (hb'.mono hn))
  rw [hr] at hC ⊢
  generalize x.lkey = q at *
  simp only [vI] at hC hX ⊢
  have HC := Lib.hid hC
  have HX := Lib.hid hX
  have HS := Lib.hid S
  have HB1 := Lib.hid b1
  clear hC hX hb hx h hr
  by_cases hz : r = 0
  · subst hz
    rw [if_pos rfl]
    go_enter Tryz.func10, Tryz.ntmps10
    go_wp2_with fail
    refine HC.out.mono ?_
    rintro e w2 ⟨rfl, S2⟩
    have HS2 := Lib.hid (HS.out.trans (S2.mono HS.out.size))
    obtain ⟨q0, q1, q2, q3, -⟩ := iblk (HB1.out.on S2)
    clear S2 HC p0 p1 p2 p3 hw1
    go_wp2_with fail
    refine (HX.out _ HS2.out (by trivial)).mono ?_
    rintro e w3 ⟨rfl, S3⟩
    have HS3 := Lib.hid (HS2.out.trans (S3.mono HS2.out.size))
    clear S3
    go_wp2_with fail
    go_ret
    exact ⟨rfl, HS3.out⟩
  · rw [if_neg hz]
    go_enter Tryz.func10, Tryz.ntmps10
    go_wp2_with fail
    refine HC.out.mono ?_
    rintro e w2 ⟨rfl, S2⟩
    have HS2 := Lib.hid (HS.out.trans (S2.mono HS.out.size))
    clear S2 HC p0 p1 p2 p3 hw1
    go_wp2_with fail
    go_ret
    exact ⟨rfl, HS2.out⟩

set_option maxRecDepth 100000 in
set_option maxHeartbeats 4000000 in
theorem ref_Fits (x : It) (A : Option Addr) (cap n : Nat) (d k s : Int) (w : World) (hx : okI 1048576 x) (hb : x.bulk ≤ 1000000000) (hn : n ≤ w.heap.size) (h : AtB w n x A cap) :
    Calls Tryz.prog 12 #[vI x A cap, vL d k s] w fun e w' => e = .returned (.int .i64 (fitsR x d k s)) ∧ Below w.heap.size w w' := by
  obtain ⟨w2, hw2, b1, b2, S⟩ : ∃ w2, (w.alloc (.cells #[.int .i64 x.k, .int .u64 x.n, .string x.s, .slice A x.l.length cap] 25)).alloc (.cells #[.int .i64 d, .int .i64 k, .int .i64 s] 27) = w2 ∧ Blk w2 w.heap.size 25 #[.int .i64 x.k, .int .u64 x.n, .string x.s, .slice A x.l.length cap] ∧ Blk w2 (w.heap.size + 1) 27 #[.int .i64 d, .int .i64 k, .int .i64 s] ∧ Below w.heap.size w w2 :=
    ⟨_, rfl, (Blk.fresh w _ _).alloc _, by have := Blk.fresh (w.alloc (.cells #[.int .i64 x.k, .int .u64 x.n, .string x.s, .slice A x.l.length cap] 25)) 27 #[.int .i64 d, .int .i64 k, .int .i64 s]; rwa [World.size_alloc] at this, (below_alloc w _).alloc (by simp) _⟩
  have hCK := fun (W : World) (hW : Below w.heap.size w W) => ref_CheckW x A cap n W hx (Nat.le_trans hn hW.size) (h.keep (hW.mono hn))
  have hSZ := fun (hz : checkR wrongI x = 0) (W : World) (hW : Below w.heap.size w W) => ref_Put x.count x A cap n W (Nat.le_refl _) (check_ok (by omega : (1048576 : Nat) ≤ 1099511627776) hx hz) hb (Nat.le_trans hn hW.size) (h.keep (hW.mono hn))
  have hlen := fun (hz : checkR wrongI x = 0) => (show (strOfNums x.renc).size = x.enc.length by rw [strOfNums_size, renc_length x (check_ok (by omega : (1048576 : Nat) ≤ 1099511627776) hx hz)])
  have hcount : x.count ≤ 1099511627775 := Nat.le_trans hx.1 (by decide)
  have hDP := fun (W : World) (hW : Below w.heap.size w W) => ref_Depth x A cap n W hcount (Nat.le_trans hn hW.size) (h.keep (hW.mono hn))
  have hLG := fun (hz : checkR wrongI x = 0) (W : World) (hW : Below w.heap.size w W) => ref_Key x.count x A cap n W (Nat.le_refl _) (check_ok (by omega : (1048576 : Nat) ≤ 1099511627776) hx hz) hb (Nat.le_trans hn hW.size) (h.keep (hW.mono hn))
  have hLC := fun (W : World) => ref_Right d k s W
  have hcell : ∀ W, Below w2.heap.size w2 W → (W.cell? ⟨w.heap.size, 0, none⟩ = some (.int .i64 x.k) ∧ W.cell? ⟨w.heap.size, 1, none⟩ = some (.int .u64 x.n) ∧ W.cell? ⟨w.heap.size, 2, none⟩ = some (.string x.s) ∧ W.cell? ⟨w.heap.size, 3, none⟩ = some (.slice A x.l.length cap)) ∧ W.cell? ⟨w.heap.size + 1, 0, none⟩ = some (.int .i64 d) ∧ W.cell? ⟨w.heap.size + 1, 1, none⟩ = some (.int .i64 k) ∧ W.cell? ⟨w.heap.size + 1, 2, none⟩ = some (.int .i64 s) := fun W hb => by
    obtain ⟨r0, r1, r2, r3, -⟩ := iblk (b1.on hb)
    exact ⟨⟨r0, r1, r2, r3⟩, lblk (b2.on hb)⟩
  obtain ⟨⟨p0, p1, p2, p3⟩, q0, q1, q2⟩ := hcell w2 (Below.refl _ _)
  have hup : ∀ W, Below w2.heap.size w2 W → Below w.heap.size w W := fun W hW => S.trans (hW.mono S.size)
  unfold fitsR
  obtain ⟨e1, he1⟩ : ∃ e : Int, (x.enc.length : Int) = e := ⟨_, rfl⟩
  obtain ⟨e2, he2⟩ : ∃ e : Int, (x.depth : Int) = e := ⟨_, rfl⟩
  obtain ⟨e3, he3⟩ : ∃ e : Int, (x.lkey : Int) = e := ⟨_, rfl⟩
  obtain ⟨r, hr⟩ : ∃ r, checkR wrongI x = r := ⟨_, rfl⟩
  obtain ⟨g, hg⟩ : ∃ g, rightL d k s = g := ⟨_, rfl⟩
  rw [he1, he2, he3, hr, hg]
  rw [hr] at hSZ hlen
  generalize strOfNums x.renc = xs at *
  obtain ⟨en, hen⟩ : ∃ e : Nat, x.enc.length = e := ⟨_, rfl⟩
  rw [hen] at hlen he1
  have hszI : r = 0 → ((xs.size : Nat) : Int) = e1 := fun hz => by rw [hlen hz]; exact he1
  clear hlen
  rw [he2] at hDP
  rw [he3, hr] at hLG
  rw [hr] at hCK
  rw [hg] at hLC
  simp only [vI, vL] at hCK hSZ hDP hLG hLC ⊢
  have HCK := Lib.hid hCK
  have HSZ := Lib.hid hSZ
  have HDP := Lib.hid hDP
  have HLG := Lib.hid hLG
  have HLC := Lib.hid hLC
  have HCELL := Lib.hid hcell
  have HUP := Lib.hid hup
  clear hen hCK hSZ hDP hLG hLC hcell hup he1 he2 he3 hr hg hcount hx hb hn h b1 b2
  cases g with
  | false =>
    go_enter Tryz.func12, Tryz.ntmps12
    go_wp2_with (go_at_call 9; refine (HLC.out _).mono ?_; rintro e w3 ⟨rfl, hb3⟩; have HB3 := Lib.hid hb3; clear hb3)
    go_ret
    exact ⟨rfl, HUP.out _ HB3.out⟩
  | true =>
  by_cases hr : r = 0
  · subst hr
    have HL := Lib.hid (HLG.out rfl)
    have HSZ' := Lib.hid (HSZ.out rfl)
    have heI := hszI rfl
    clear HSZ hszI
    go_enter Tryz.func12, Tryz.ntmps12
    go_wp2_with (first
      | (go_at_call 9; refine (HLC.out _).mono ?_; rintro e w3 ⟨rfl, hb3⟩; obtain ⟨⟨a0, a1, a2, a3⟩, -⟩ := HCELL.out w3 hb3; have HB3 := Lib.hid hb3; clear hb3)
      | (go_at_call 6; refine (HCK.out _ (HUP.out _ HB3.out)).mono ?_; rintro e w4 ⟨rfl, hb4⟩; have HB4 := Lib.hid (HB3.out.trans (hb4.mono HB3.out.size)); clear hb4))
    clear a0 a1 a2 a3 p0 p1 p2 p3 q0 q1 q2
    by_cases h1 : s < e1
    · obtain ⟨⟨b0, b1, b2, b3⟩, b4, b5, b6⟩ := HCELL.out w4 HB4.out
      have ke0 := cell_regrown b0
      have ke1 := cell_regrown b1
      have ke2 := cell_regrown b2
      have ke3 := cell_regrown b3
      have ke4 := cell_regrown b6
      have K1 := Lib.hid (fun dq os => Calls.regrown_of (HSZ'.out (grow (redrawn w4 dq) os) (HUP.out _ (HB4.out.trans ((below_regrown w4 dq os).mono HB4.out.size)))))
      refine wp_region_quiet_below (by kernel_rfl) (by kernel_rfl) ?_
      repeat (quiet_step (exact K1.out _ _))
      refine wpQuiet_nil ?_
      intro _ hw'
      obtain ⟨⟨dq, osq⟩, hw''⟩ := hw'
      subst hw''
      clear ke0 ke1 ke2 ke3 ke4 K1 b0 b1 b2 b3 b4 b5 b6
      have HB5 := Lib.hid (HB4.out.trans ((below_regrown w4 dq osq).mono HB4.out.size))
      generalize grow (redrawn w4 dq) osq = w5 at *
      go_wp2_with fail
      go_ret
      exact ⟨rfl, HUP.out _ HB5.out⟩
    · obtain ⟨⟨b0, b1, b2, b3⟩, b4, b5, b6⟩ := HCELL.out w4 HB4.out
      have ke0 := cell_regrown b0
      have ke1 := cell_regrown b1
      have ke2 := cell_regrown b2
      have ke3 := cell_regrown b3
      have ke4 := cell_regrown b6
      have K1 := Lib.hid (fun dq os => Calls.regrown_of (HSZ'.out (grow (redrawn w4 dq) os) (HUP.out _ (HB4.out.trans ((below_regrown w4 dq os).mono HB4.out.size)))))
      refine wp_region_quiet_below (by kernel_rfl) (by kernel_rfl) ?_
      repeat (quiet_step (exact K1.out _ _))
      refine wpQuiet_nil ?_
      intro _ hw'
      obtain ⟨⟨dq, osq⟩, hw''⟩ := hw'
      subst hw''
      clear ke0 ke1 ke2 ke3 ke4 K1 b0 b1 b2 b3 b4 b5 b6
      have HB5 := Lib.hid (HB4.out.trans ((below_regrown w4 dq osq).mono HB4.out.size))
      generalize grow (redrawn w4 dq) osq = w5 at *
      go_wp2_with fail
      by_cases h2 : d < e2
      · obtain ⟨⟨c0, c1, c2, c3⟩, c4, c5, c6⟩ := HCELL.out w5 HB5.out
        have ke0 := cell_regrown c0
        have ke1 := cell_regrown c1
        have ke2 := cell_regrown c2
        have ke3 := cell_regrown c3
        have ke4 := cell_regrown c4
        have K1 := Lib.hid (fun dq os => Calls.regrown_of (HDP.out (grow (redrawn w5 dq) os) (HUP.out _ (HB5.out.trans ((below_regrown w5 dq os).mono HB5.out.size)))))
        refine wp_region_quiet_below (by kernel_rfl) (by kernel_rfl) ?_
        repeat (quiet_step (exact K1.out _ _))
        refine wpQuiet_nil ?_
        intro _ hw'
        obtain ⟨⟨dq, osq⟩, hw''⟩ := hw'
        subst hw''
        clear ke0 ke1 ke2 ke3 ke4 K1 c0 c1 c2 c3 c4 c5 c6
        have HB6 := Lib.hid (HB5.out.trans ((below_regrown w5 dq osq).mono HB5.out.size))
        generalize grow (redrawn w5 dq) osq = w6 at *
        go_wp2_with fail
        go_ret
        exact ⟨rfl, HUP.out _ HB6.out⟩
      · obtain ⟨⟨c0, c1, c2, c3⟩, c4, c5, c6⟩ := HCELL.out w5 HB5.out
        have ke0 := cell_regrown c0
        have ke1 := cell_regrown c1
        have ke2 := cell_regrown c2
        have ke3 := cell_regrown c3
        have ke4 := cell_regrown c4
        have K1 := Lib.hid (fun dq os => Calls.regrown_of (HDP.out (grow (redrawn w5 dq) os) (HUP.out _ (HB5.out.trans ((below_regrown w5 dq os).mono HB5.out.size)))))
        refine wp_region_quiet_below (by kernel_rfl) (by kernel_rfl) ?_
        repeat (quiet_step (exact K1.out _ _))
        refine wpQuiet_nil ?_
        intro _ hw'
        obtain ⟨⟨dq, osq⟩, hw''⟩ := hw'
        subst hw''
        clear ke0 ke1 ke2 ke3 ke4 K1 c0 c1 c2 c3 c4 c5 c6
        have HB6 := Lib.hid (HB5.out.trans ((below_regrown w5 dq osq).mono HB5.out.size))
        generalize grow (redrawn w5 dq) osq = w6 at *
        go_wp2_with fail
        by_cases h3 : k < e3
        · obtain ⟨⟨d0, d1, d2, d3⟩, d4, d5, d6⟩ := HCELL.out w6 HB6.out
          have ke0 := cell_regrown d0
          have ke1 := cell_regrown d1
          have ke2 := cell_regrown d2
          have ke3 := cell_regrown d3
          have ke4 := cell_regrown d5
          have K1 := Lib.hid (fun dq os => Calls.regrown_of (HL.out (grow (redrawn w6 dq) os) (HUP.out _ (HB6.out.trans ((below_regrown w6 dq os).mono HB6.out.size)))))
          refine wp_region_quiet_below (by kernel_rfl) (by kernel_rfl) ?_
          repeat (quiet_step (exact K1.out _ _))
          refine wpQuiet_nil ?_
          intro _ hw'
          obtain ⟨⟨dq, osq⟩, hw''⟩ := hw'
          subst hw''
          clear ke0 ke1 ke2 ke3 ke4 K1 d0 d1 d2 d3 d4 d5 d6
          have HB7 := Lib.hid (HB6.out.trans ((below_regrown w6 dq osq).mono HB6.out.size))
          generalize grow (redrawn w6 dq) osq = w7 at *
          go_wp2_with fail
          go_ret
          exact ⟨rfl, HUP.out _ HB7.out⟩
        · obtain ⟨⟨d0, d1, d2, d3⟩, d4, d5, d6⟩ := HCELL.out w6 HB6.out
          have ke0 := cell_regrown d0
          have ke1 := cell_regrown d1
          have ke2 := cell_regrown d2
          have ke3 := cell_regrown d3
          have ke4 := cell_regrown d5
          have K1 := Lib.hid (fun dq os => Calls.regrown_of (HL.out (grow (redrawn w6 dq) os) (HUP.out _ (HB6.out.trans ((below_regrown w6 dq os).mono HB6.out.size)))))
          refine wp_region_quiet_below (by kernel_rfl) (by kernel_rfl) ?_
          repeat (quiet_step (exact K1.out _ _))
          refine wpQuiet_nil ?_
          intro _ hw'
          obtain ⟨⟨dq, osq⟩, hw''⟩ := hw'
          subst hw''
          clear ke0 ke1 ke2 ke3 ke4 K1 d0 d1 d2 d3 d4 d5 d6
          have HB7 := Lib.hid (HB6.out.trans ((below_regrown w6 dq osq).mono HB6.out.size))
          generalize grow (redrawn w6 dq) osq = w7 at *
          go_wp2_with fail
          go_ret
          exact ⟨rfl, HUP.out _ HB7.out⟩
  · go_enter Tryz.func12, Tryz.ntmps12
    go_wp2_with (first
      | (go_at_call 9; refine (HLC.out _).mono ?_; rintro e w3 ⟨rfl, hb3⟩; obtain ⟨⟨a0, a1, a2, a3⟩, -⟩ := HCELL.out w3 hb3; have HB3 := Lib.hid hb3; clear hb3)
      | (go_at_call 6; refine (HCK.out _ (HUP.out _ HB3.out)).mono ?_; rintro e w4 ⟨rfl, hb4⟩; have HB4 := Lib.hid (HB3.out.trans (hb4.mono HB3.out.size)); clear hb4))
    go_ret
    exact ⟨rfl, HUP.out _ HB4.out⟩
end Go.Proofs.YtgcgidoikpbfpaaGreat
