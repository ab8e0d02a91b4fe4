/- Package enc: size, Size. -/
import Derived.Test.YtgcgidoikpbfpaaKBJ
import Derived.Deep.RegionHeld3
namespace Go.Proofs.Ytgcgidoikpbfpaa
open Go.RowKit

set_option maxRecDepth 100000 in
set_option maxHeartbeats 4000000 in
theorem enc_size : ∀ (c : Nat) (x : It) (A : Option Addr) (cap n : Nat) (w : World), x.count ≤ c → x.okE → x.bulk ≤ 1099511627776 → n ≤ w.heap.size → AtB w n x A cap →
    Calls Try.prog 20 #[vI x A cap] w fun e w' => e = .returned (.int .i64 (x.enc.length : Int)) ∧ Below w.heap.size w w' := by
  intro c
  induction c with
  | zero => intro x A cap n w h; have := count_pos x; omega
  | succ c ih =>
    intro x A cap n w hc hok hsz hn h
    simp only [vI] at ih
    have IH := Lib.hid ih
    clear ih
    obtain ⟨k, nn, s, l⟩ := x
    have hok' := hok
    rw [It.okE] at hok'
    obtain ⟨⟨_, _, hn0, hn1, _, _⟩, hokl⟩ := hok'
    simp only [It.n] at hn0 hn1
    rw [It.bulk] at hsz
    have hll := bulk_length l
    obtain ⟨w1, hw1, b1, S⟩ := iblk1 w 25 #[.int .i64 k, .int .u64 nn, .string s, .slice A l.length cap]
    obtain ⟨p0, p1, p2, p3, -⟩ := iblk b1
    have C := fun w => enc_headOf (.mk k nn s l) A cap w hn0 hn1 (by show s.size ≤ _; omega) (by show l.length ≤ _; omega)
    have hhd := hd_length k nn s.size l.length
    have HENC : RowKit.Hid (It.enc (.mk k nn s l) = hdK k nn s.size l.length ++ (sbytes s ++ encL l)) := Lib.hid (by rw [It.enc])
    have HC := Lib.hid C
    have HS := Lib.hid S
    have HB1 := Lib.hid b1
    have HH := Lib.hid h
    have HN := Lib.hid hn
    have HOKL := Lib.hid hokl
    have HSZ := Lib.hid (fun _ : Unit => hsz)
    have HCC := Lib.hid (fun _ : Unit => hc)
    have hml : (l.length : Int) < 1099511627777 := by omega
    have hsl : (s.size : Int) < 1099511627777 := by omega
    clear C S b1 h hn hokl hok hsz hc hll hn0 hn1
    simp only [vI, It.k, It.n, It.s, It.l] at HC ⊢
    generalize It.enc (.mk k nn s l) = EN at *
    generalize hdK k nn s.size l.length = he at *
    obtain ⟨m, hm⟩ : ∃ m, l.length = m := ⟨_, rfl⟩
    obtain ⟨q, hq⟩ : ∃ q, he.length = q := ⟨_, rfl⟩
    obtain ⟨z, hz⟩ : ∃ z, s.size = z := ⟨_, rfl⟩
    rw [hq] at hhd
    rw [hm] at hml p3 hw1 HB1 HC ⊢
    rw [hz] at hsl
    have HM := Lib.hid hm
    have HZ := Lib.hid hz
    have HQ := Lib.hid hq
    have hq9 : (q : Int) ≤ 9 := by omega
    have HQ9 := Lib.hid hhd
    clear hm hhd hq
    go_enter Try.func20, Try.ntmps20
    go_wp2_with fail
    have HK : ∀ W, Below w1.heap.size w1 W → W.cell? ⟨w.heap.size, 0, none⟩ = some (.int .i64 k) ∧ W.cell? ⟨w.heap.size, 1, none⟩ = some (.int .u64 nn) ∧ W.cell? ⟨w.heap.size, 2, none⟩ = some (.string s) ∧ W.cell? ⟨w.heap.size, 3, none⟩ = some (.slice A m cap) := fun W hb => by
      obtain ⟨r0, r1, r2, r3, -⟩ := iblk (HB1.out.on hb)
      exact ⟨r0, r1, r2, r3⟩
    have HK' := Lib.hid HK
    clear HK
    obtain cS : w1.drew.cell? ⟨w.heap.size, 0, none⟩ = some (.int .i64 k) ∧ w1.drew.cell? ⟨w.heap.size, 1, none⟩ = some (.int .u64 nn) ∧ w1.drew.cell? ⟨w.heap.size, 2, none⟩ = some (.string s) ∧ w1.drew.cell? ⟨w.heap.size, 3, none⟩ = some (.slice A m cap) := HK'.out _ (below_drawn (Below.refl _ _))
    go_region_held3 (fun W => W.cell? ⟨w.heap.size, 0, none⟩ = some (.int .i64 k) ∧ W.cell? ⟨w.heap.size, 1, none⟩ = some (.int .u64 nn) ∧ W.cell? ⟨w.heap.size, 2, none⟩ = some (.string s) ∧ W.cell? ⟨w.heap.size, 3, none⟩ = some (.slice A m cap)) (first | go_keep | exact cS) ((go_at_call 26; refine (HC.out _).mono ?_; rintro e w2 ⟨v2, rfl, ho, hb⟩; obtain ⟨A2, cap2, rfl, c1, c2, c3, c4, c5⟩ := ho.form; rw [HQ.out]; have HB2 := Lib.hid hb; have cS := HK'.out w2 ((below_drawn (Below.refl _ _)).trans hb); clear ho hb c1 c2 c3 c4 c5))
    have e1 : IntKind.i64.wrap ((q : Int) + z) = ((q + z : Nat) : Int) := by
      rw [IntWalk.i64_in _ (by omega)]; omega
    rw [e1]
    obtain ⟨qz, hqz⟩ : ∃ qz, q + z = qz := ⟨_, rfl⟩
    rw [hqz]
    have HQZ := Lib.hid hqz
    have HB2' := Lib.hid (HS.out.trans ((below_drawn (Below.refl w1.heap.size w1)).mono HS.out.size |>.trans (HB2.out.mono (by have := HS.out.size; simpa using this))))
    obtain ⟨-, -, -, c3⟩ := cS
    clear e1 hqz hq9 hsl p0 p1 p2 p3 hw1 HC HB1 HB2
    go_wp2_with fail
    go_loopw [3, 16] (fun nv i wr => ∃ j : Nat, j ≤ m ∧ i = .int .i64 (j : Int) ∧ nv = .int .i64 ((qz + (encL (l.take j)).length : Nat) : Int) ∧ RowKit.Hid (Below w.heap.size w wr)) (fun _ i _ => m - (intOf i).toNat)
    case atStart => exact ⟨0, by omega, rfl, by simp [encL], HB2'⟩
    case round =>
      obtain ⟨j, hj, rfl, rfl, HB⟩ := hrel
      by_cases hlt : j < m
      · as_aux_lemma =>
        have hbn := HB.out.mono HN.out
        obtain ⟨b, o, X, A', c', rfl, -, hb1, hX, mX, x0, x1, x2, x3, hx⟩ := (HH.out.keep hbn).item (i := j) (by show j < l.length; rw [HM.out]; exact hlt)
        have hX : l[j]? = some X := hX
        have mX : X ∈ l := mX
        have htk := (take_at hX).1
        have hbx : X.bulk ≤ (It.mk k nn s l).bulk := bulk_sub (x := .mk k nn s l) mX
        rw [It.bulk] at hbx
        have hcount : X.count ≤ c := by
          have h1 := count_le_of_mem mX
          have h2 := HCC.out ()
          rw [It.count_eq] at h2
          have h3 : (It.mk k nn s l).l = l := rfl
          rw [h3] at h2
          omega
        have S5 := below_alloc wr (.cells #[.int .i64 X.k, .int .u64 X.n, .string X.s, .slice A' X.l.length c'] 25)
        have hBr : w.heap.size ≤ wr.heap.size := HB.out.size
        have C := IH.out X A' c' n (wr.alloc (.cells #[.int .i64 X.k, .int .u64 X.n, .string X.s, .slice A' X.l.length c'] 25)) hcount (okEL_iff.1 HOKL.out X mX) (by have := HSZ.out (); omega) (Nat.le_trans HN.out (Nat.le_trans hBr S5.size)) (hx.keep (S5.mono (Nat.le_trans HN.out hBr)))
        have HC := Lib.hid C
        have HTK := Lib.hid (show (encL (l.take (j + 1))).length = (encL (l.take j)).length + X.enc.length by rw [htk, encL_append]; simp [encL])
        have HS5 := Lib.hid (S5.mono hBr)
        have hle : qz + (encL (l.take j)).length + X.enc.length < 1099511627777 := by
          have h1 := encL_length (l.take (j + 1))
          have h2 := HTK.out
          have h3 : bulkL (l.take (j + 1)) ≤ bulkL l := by
            have := bulkL_append (l.take (j + 1)) (l.drop (j + 1))
            rw [List.take_append_drop] at this
            omega
          have h4 := HSZ.out ()
          have h5 := HQZ.out
          have h6 := HQ9.out
          have h7 := HZ.out
          omega
        obtain ⟨p, hp⟩ : ∃ p : Nat, qz + (encL (l.take j)).length = p := ⟨_, rfl⟩
        obtain ⟨r, hr⟩ : ∃ r : Nat, X.enc.length = r := ⟨_, rfl⟩
        rw [hp] at hle ⊢
        rw [hr] at HC HTK hle
        have HP := Lib.hid hp
        have hpI : (p : Int) + r < 1099511627777 := by omega
        have hji : (j : Int) < m := by omega
        clear C S5 hbx hcount hX mX htk hx hbn hle hp hr
        go_wp2_with (go_at_call 20; refine HC.out.mono ?_; rintro e w6 ⟨rfl, hb⟩; have HB6 := Lib.hid hb; clear hb)
        go_roundw
        case rel =>
          refine ⟨j + 1, by omega, by simp, ?_, Lib.hid (HB.out.trans (HS5.out.trans (HB6.out.mono (Nat.le_trans hBr (by simp)))))⟩
          rw [HTK.out, ← HP.out]; congr 1; omega
        case measure => simp [intOf]; omega
      · obtain rfl : j = m := by omega
        have hfull : l.take j = l := by rw [← HM.out, List.take_length]
        rw [hfull]
        have he : qz + (encL l).length = EN.length := by rw [HENC.out, List.length_append, List.length_append, length_sbytes, HQ.out, HZ.out, ← HQZ.out]; omega
        rw [he]
        clear hml
        go_wp2_with fail
        go_ret
        exact ⟨rfl, HB.out⟩

/-- What Size answers. -/
noncomputable def sizeR (x : It) : Int := if checkR wrongI x = 0 then (x.enc.length : Int) else 0
set_option maxRecDepth 100000 in
theorem enc_Size (x : It) (A : Option Addr) (cap n : Nat) (w : World) (hx : okI 1048576 x) (hb : x.bulk ≤ 1099511627776) (hn : n ≤ w.heap.size) (h : AtB w n x A cap) :
    Calls Try.prog 16 #[vI x A cap] w fun e w' => e = .returned (.int .i64 (sizeR x)) ∧ Below w.heap.size w w' := by
  obtain ⟨w1, hw1, b1, S⟩ := iblk1 w 25 #[.int .i64 x.k, .int .u64 x.n, .string x.s, .slice A x.l.length cap]
  obtain ⟨p0, p1, p2, p3, -⟩ := iblk b1
  obtain ⟨r, hr⟩ : ∃ r, checkR wrongI x = r := ⟨_, rfl⟩
  have hC := item_CheckW x A cap n w1 hx (Nat.le_trans hn S.size) (h.keep (S.mono hn))
  have hX := fun (w' : World) (hb' : Below w.heap.size w w') (ok : x.okE) => enc_size x.count x A cap n w' (Nat.le_refl _) ok hb (Nat.le_trans hn hb'.size) (h.keep (hb'.mono hn))
  have HOK := Lib.hid (fun hz : r = 0 => check_ok (by omega : (1048576 : Nat) ≤ 1099511627776) hx (hr.trans hz))
  unfold sizeR
  rw [hr] at hC ⊢
  obtain ⟨q, hq⟩ : ∃ q, x.enc.length = q := ⟨_, rfl⟩
  rw [hq] at hX ⊢
  simp only [vI] at hC hX ⊢
  have HC := Lib.hid hC
  have HX := Lib.hid hX
  have HS := Lib.hid S
  have HB1 := Lib.hid b1
  clear hC hX hb hx h hr hq
  by_cases hz : r = 0
  · subst hz
    have ok := Lib.hid (HOK.out rfl)
    rw [if_pos rfl]
    go_enter Try.func16, Try.ntmps16
    go_wp2_with fail
    refine HC.out.mono ?_
    rintro e w2 ⟨rfl, S2⟩
    have HS2 := Lib.hid (HS.out.trans (S2.mono HS.out.size))
    obtain ⟨q0, q1, q2, q3, -⟩ := iblk (HB1.out.on S2)
    clear S2 HC p0 p1 p2 p3 hw1
    go_wp2_with fail
    refine (HX.out _ HS2.out ok.out).mono ?_
    rintro e w3 ⟨rfl, S3⟩
    have HS3 := Lib.hid (HS2.out.trans (S3.mono HS2.out.size))
    clear S3
    go_wp2_with fail
    go_ret
    exact ⟨rfl, HS3.out⟩
  · rw [if_neg hz]
    go_enter Try.func16, Try.ntmps16
    go_wp2_with fail
    refine HC.out.mono ?_
    rintro e w2 ⟨rfl, S2⟩
    have HS2 := Lib.hid (HS.out.trans (S2.mono HS.out.size))
    clear S2 HC p0 p1 p2 p3 hw1
    go_wp2_with fail
    go_ret
    exact ⟨rfl, HS2.out⟩
end Go.Proofs.Ytgcgidoikpbfpaa

/- Package limit: within, Check, the longest key. -/
namespace Go.Proofs.Ytgcgidoikpbfpaa
open Go.RowKit

/-- Limits boxed. -/
theorem lblk {w : World} {g : Nat} {t : TypeId} {a b c : Value} (h : Blk w g t #[a, b, c]) :
    w.cell? ⟨g, 0, none⟩ = some a ∧ w.cell? ⟨g, 1, none⟩ = some b ∧ w.cell? ⟨g, 2, none⟩ = some c :=
  ⟨by rw [h.cell]; rfl, by rw [h.cell]; rfl, by rw [h.cell]; rfl⟩
/-- Limits as a value. -/
def vL (d k s : Int) : Value := .agg #[.int .i64 d, .int .i64 k, .int .i64 s]

theorem limit_within (n m : Int) (w : World) : Calls Try.prog 17 #[.int .i64 n, .int .i64 m] w fun e w' => e = .returned (.bool (decide (1 ≤ n) && decide (n ≤ m))) ∧ w' = w := by
  by_cases h : 1 ≤ n
  · go_enter Try.func17, Try.ntmps17
    go_wp2
    go_ret
    exact ⟨by rw [decide_eq_true h, Bool.true_and]; rfl, rfl⟩
  · go_enter Try.func17, Try.ntmps17
    go_wp2
    go_ret
    exact ⟨by rw [decide_eq_false (by omega : ¬ 1 ≤ n), Bool.false_and]; rfl, rfl⟩

set_option maxRecDepth 100000 in
set_option maxHeartbeats 4000000 in
theorem limit_Check (d k s : Int) (w : World) : Calls Try.prog 9 #[vL d k s] w fun e w' => e = .returned (.int .i64 (rightR d k s)) ∧ Below w.heap.size w w' := by
  obtain ⟨w1, hw1, b1, S⟩ := iblk1 w 27 #[.int .i64 d, .int .i64 k, .int .i64 s]
  obtain ⟨p0, p1, p2⟩ := lblk b1
  have HW := fun (n m : Int) => limit_within n m w1
  unfold rightR rightL vL
  obtain ⟨x1, e1⟩ : ∃ x, (decide (1 ≤ d) && decide (d ≤ 64)) = x := ⟨_, rfl⟩
  obtain ⟨x2, e2⟩ : ∃ x, (decide (1 ≤ k) && decide (k ≤ 1024)) = x := ⟨_, rfl⟩
  obtain ⟨x3, e3⟩ : ∃ x, (decide (1 ≤ s) && decide (s ≤ 2305843009213693951)) = x := ⟨_, rfl⟩
  rw [e1, e2, e3]
  have HS := Lib.hid S
  have HW := Lib.hid HW
  have E1 := Lib.hid e1
  have E2 := Lib.hid e2
  have E3 := Lib.hid e3
  clear S b1 e1 e2 e3
  cases x1 <;> cases x2 <;> cases x3 <;>
  · go_enter Try.func9, Try.ntmps9
    go_wp2_with (go_at_call 17; refine (HW.out _ _).mono ?_; rintro e w' ⟨rfl, rfl⟩; (first | rw [E1.out] | rw [E2.out] | rw [E3.out]))
    go_ret
    exact ⟨rfl, HS.out⟩

set_option maxRecDepth 100000 in
set_option maxHeartbeats 4000000 in
theorem limit_longest : ∀ (c : Nat) (x : It) (A : Option Addr) (cap n : Nat) (w : World), x.count ≤ c → okI 1048576 x → checkR wrongI x = 0 → x.bulk ≤ 1099511627776 → n ≤ w.heap.size → AtB w n x A cap →
    Calls Try.prog 15 #[vI x A cap] w fun e w' => e = .returned (.int .i64 (x.lkey : Int)) ∧ Below w.heap.size w w' := by
  intro c
  induction c with
  | zero => intro x A cap n w h; have := count_pos x; omega
  | succ c ih =>
    intro x A cap n w hc hok hck hsz hn h
    simp only [vI] at ih
    have IH := Lib.hid ih
    clear ih
    have hll : x.l.length ≤ 1099511627776 := by
      have h1 := length_le_countL x.l
      have h2 := hok.1
      rw [It.count_eq] at h2
      omega
    obtain ⟨w1, hw1, b1, S⟩ := iblk1 w 25 #[.int .i64 x.k, .int .u64 x.n, .string x.s, .slice A x.l.length cap]
    obtain ⟨p0, p1, p2, p3, -⟩ := iblk b1
    have HLK : RowKit.Hid (x.lkey = lkeyL (decide (x.k = 5)) true x.l) := Lib.hid x.lkey_eq
    have HS := Lib.hid S
    have HB1 := Lib.hid b1
    have HH := Lib.hid h
    have HN := Lib.hid hn
    have HOK := Lib.hid (fun _ : Unit => hok)
    have HCK := Lib.hid hck
    have HSZ := Lib.hid (fun _ : Unit => hsz)
    have HCC := Lib.hid (fun _ : Unit => hc)
    have hml : (x.l.length : Int) < 1099511627777 := by omega
    clear S b1 h hn hok hck hsz hc hll
    simp only [vI] at ⊢
    generalize x.lkey = LK at *
    obtain ⟨m, hm⟩ : ∃ m, x.l.length = m := ⟨_, rfl⟩
    rw [hm] at hml p3 hw1 HB1 ⊢
    have HM := Lib.hid hm
    obtain ⟨k, hk⟩ : ∃ k, x.k = k := ⟨_, rfl⟩
    rw [hk] at p0 hw1 HB1 HLK ⊢
    obtain ⟨bb, hbb⟩ : ∃ bb, decide (k = 5) = bb := ⟨_, rfl⟩
    rw [hbb] at HLK
    have HKB := Lib.hid hbb
    clear hm hk hbb
    go_enter Try.func15, Try.ntmps15
    go_wp2_with fail
    go_loopw [3, 9] (fun nv i wr => ∃ j : Nat, j ≤ m ∧ i = .int .i64 (j : Int) ∧ nv = .int .i64 ((lkeyL bb true (x.l.take j) : Nat) : Int) ∧ RowKit.Hid (Below w.heap.size w wr) ∧ RowKit.Hid (Blk wr w.heap.size 25 #[.int .i64 k, .int .u64 x.n, .string x.s, .slice A m cap])) (fun _ i _ => m - (intOf i).toNat)
    case atStart => exact ⟨0, by omega, rfl, by simp [lkeyL], HS, HB1⟩
    case round =>
      obtain ⟨j, hj, rfl, rfl, HB, HBK⟩ := hrel
      by_cases hlt : j < m
      · as_aux_lemma =>
        have hbn := HB.out.mono HN.out
        obtain ⟨b, o, X, A', c', rfl, -, hb1, hX, mX, x0, x1, x2, x3, hx⟩ := (HH.out.keep hbn).item (i := j) (by show j < x.l.length; rw [HM.out]; exact hlt)
        have htk := (take_at hX).1
        have hcount : X.count ≤ c := by
          have h1 := count_le_of_mem mX
          have h2 := HCC.out ()
          rw [It.count_eq] at h2
          omega
        have S5 := below_alloc wr (.cells #[.int .i64 X.k, .int .u64 X.n, .string X.s, .slice A' X.l.length c'] 25)
        have hBr : w.heap.size ≤ wr.heap.size := HB.out.size
        have hck := check_sub HCK.out mX
        have hoX := okI_sub (HOK.out ()) mX
        have hbX : X.bulk ≤ 1099511627776 := Nat.le_trans (bulk_sub mX) (HSZ.out ())
        have hnX := Nat.le_trans HN.out (Nat.le_trans hBr S5.size)
        have haX := hx.keep (S5.mono (Nat.le_trans HN.out hBr))
        have C := IH.out X A' c' n (wr.alloc (.cells #[.int .i64 X.k, .int .u64 X.n, .string X.s, .slice A' X.l.length c'] 25)) hcount hoX hck hbX hnX haX
        have C2 := enc_Size X A' c' n (wr.alloc (.cells #[.int .i64 X.k, .int .u64 X.n, .string X.s, .slice A' X.l.length c'] 25)) hoX hbX hnX haX
        unfold sizeR at C2
        rw [if_pos hck] at C2
        simp only [vI] at C2
        have HC := Lib.hid C
        have HC2 := Lib.hid C2
        have htl : (x.l.take j).length = j := by rw [List.length_take, HM.out]; omega
        have HTK := Lib.hid (show lkeyL bb true (x.l.take (j + 1)) = max (lkeyL bb true (x.l.take j)) (if (bb && (true == decide (j % 2 = 0))) = true then X.enc.length else X.lkey) by rw [htk, lkeyL_snoc, htl])
        have HS5 := Lib.hid (S5.mono hBr)
        have HBK5 := Lib.hid (HBK.out.on S5)
        obtain ⟨y0, y1, y2, y3, -⟩ := iblk HBK5.out
        obtain ⟨y3', -⟩ : wr.cell? ⟨w.heap.size, 3, none⟩ = some (.slice (some ⟨b, o, none⟩) m cap) ∧ True := ⟨(iblk HBK.out).2.2.2.1, trivial⟩
        obtain ⟨p, hp⟩ : ∃ p : Nat, lkeyL bb true (x.l.take j) = p := ⟨_, rfl⟩
        rw [hp] at HTK ⊢
        generalize X.enc.length = xe at *
        generalize X.lkey = xk at *
        have hji : (j : Int) < m := by omega
        clear C C2 S5 hcount hX mX htk hx hbn hp hck hoX hbX hnX haX htl
        by_cases hk5 : k = 5
        · obtain rfl : true = bb := by rw [← HKB.out, hk5]; rfl
          subst hk5
          by_cases hev : j % 2 = 0
          · have hevJ : (j : Int) % 2 = 0 := by omega
            go_wp2_with (go_at_call 16; refine HC2.out.mono ?_; rintro e w6 ⟨rfl, hb⟩; have HB6 := Lib.hid hb; clear hb)
            have hcd : (true && (true == decide (j % 2 = 0))) = true := by simp [hev]
            go_roundw
            case rel =>
              refine ⟨j + 1, by omega, by simp, ?_, Lib.hid (HB.out.trans (HS5.out.trans (HB6.out.mono (Nat.le_trans hBr (by simp))))), Lib.hid (HBK5.out.on HB6.out)⟩
              rw [HTK.out, if_pos hcd]
              congr 1
              omega
            case measure => simp [intOf]; omega
          · have hevJ : (j : Int) % 2 = 1 := by omega
            have hcd : ¬ (true && (true == decide (j % 2 = 0))) = true := by simp [hev]
            go_wp2_with (go_at_call 15; refine HC.out.mono ?_; rintro e w6 ⟨rfl, hb⟩; have HB6 := Lib.hid hb; clear hb)
            go_roundw
            case rel =>
              refine ⟨j + 1, by omega, by simp, ?_, Lib.hid (HB.out.trans (HS5.out.trans (HB6.out.mono (Nat.le_trans hBr (by simp))))), Lib.hid (HBK5.out.on HB6.out)⟩
              rw [HTK.out, if_neg hcd]
              congr 1
              omega
            case measure => simp [intOf]; omega
        · obtain rfl : false = bb := by rw [← HKB.out, decide_eq_false hk5]
          have hcd : ¬ (false && (true == decide (j % 2 = 0))) = true := by simp
          go_wp2_with (go_at_call 15; refine HC.out.mono ?_; rintro e w6 ⟨rfl, hb⟩; have HB6 := Lib.hid hb; clear hb)
          go_roundw
          case rel =>
            refine ⟨j + 1, by omega, by simp, ?_, Lib.hid (HB.out.trans (HS5.out.trans (HB6.out.mono (Nat.le_trans hBr (by simp))))), Lib.hid (HBK5.out.on HB6.out)⟩
            rw [HTK.out, if_neg hcd]
            congr 1
            omega
          case measure => simp [intOf]; omega
      · obtain rfl : j = m := by omega
        have hfull : x.l.take j = x.l := by rw [← HM.out, List.take_length]
        rw [hfull, ← HLK.out]
        clear hml
        go_wp2_with fail
        go_ret
        exact ⟨rfl, HB.out⟩
end Go.Proofs.Ytgcgidoikpbfpaa
