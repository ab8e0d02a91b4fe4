/- The document's encoding. -/
import Derived.Test.YtgcgidoikpbfpaaGreatKBI
import Derived.Test.YtgcgidoikpbfpaaGreatKAM
import Derived.Test.YtgcgidoikpbfpaaGreatKAO
import Derived.Test.YtgcgidoikpbfpaaGreatKBJ
namespace Go.Proofs.YtgcgidoikpbfpaaGreat
open Go.RowKit Go.Sort

theorem conv_own {w : World} {B : Nat} {v : Value} {L : List Int} (h : Own w B .u8 5 v L) : (convert 50 9 v).run Tryz.prog w = .ok (.string (strOfNums L)) w := by
  obtain ⟨A, cap, rfl, _, _, _, _, hr⟩ := h.form
  exact run_str (P := Tryz.prog) Tryz.underlying50 Tryz.underlying5 Tryz.underlying9 cap hr
theorem run_saddS {P : Program} (a : List Int) (s : ByteArray) (h : a.length + s.size ≤ 9223372036854775807) (w : World) : (Op.stringOp .add (strOfNums a) s).run P w = .ok (.string (strOfNums (a ++ sbytes s))) w := by
  have := run_sadd (P := P) a (sbytes s) (by rw [length_sbytes]; exact h) w
  rwa [str_sbytes] at this
theorem sbytes_zero {s : ByteArray} (h : s.size = 0) : sbytes s = [] := List.eq_nil_of_length_eq_zero (by rw [length_sbytes]; exact h)
theorem flat_append (a b : List It) : (rencs (a ++ b)).flatten = (rencs a).flatten ++ (rencs b).flatten := by rw [rencs_map, rencs_map, rencs_map, List.map_append, List.flatten_append]
theorem renc_bulk {x : It} (h : x.okE) : x.renc.length ≤ x.bulk := by rw [renc_length x h]; exact enc_length x
theorem rencs_get {l : List It} {i : Nat} {X : It} (h : l[i]? = some X) : (rencs l).getD i [] = X.renc := by
  rw [rencs_map, List.getD_eq_getElem?_getD, List.getElem?_map, h]
  rfl

set_option maxRecDepth 100000 in
set_option maxHeartbeats 8000000 in
theorem ref_Put : ∀ (c : Nat) (x : It) (A : Option Addr) (cap n : Nat) (w : World), x.count ≤ c → x.okE → x.bulk ≤ 1000000000 → n ≤ w.heap.size → AtB w n x A cap →
    Calls Tryz.prog 18 #[vI x A cap] w fun e w' => e = .returned (.string (strOfNums x.renc)) ∧ Below w.heap.size w w' := by
  intro c
  induction c with
  | zero => intro x A cap n w h; have := count_pos x; omega
  | succ c ih =>
    intro x A cap n w hc hok hsz hn h
    have IH := Lib.hid ih
    clear ih
    obtain ⟨k, nn, s, l⟩ := x
    have hok' := (It.okE_eq _).1 hok
    have htop := hok'.1
    have hk := ok_kinds htop
    obtain ⟨_, _, hn0, hn1, _, _⟩ := htop
    simp only [It.n] at hn0 hn1
    have hsz' := hsz
    rw [It.bulk] at hsz'
    have hll := bulk_length l
    obtain ⟨w1, hw1, b1, S⟩ := iblk1 w 25 #[.int .i64 k, .int .u64 nn, .string s, .slice A l.length cap]
    obtain ⟨p0, p1, p2, p3, -⟩ := iblk b1
    have hhd := hd_length k nn s.size l.length
    have hren : It.renc (.mk k nn s l) = hdK k nn s.size l.length ++ (sbytes s ++ (if k = 5 then mapEnc (rencs l) else (rencs l).flatten)) := by rw [It.renc]
    have HS := Lib.hid S
    have HB1 := Lib.hid b1
    have HREN := Lib.hid hren
    simp only [It.k, It.n, It.s, It.l] at hk
    rcases (show k = 8 ∨ k = 2 ∨ k = 3 ∨ k = 5 ∨ k = 4 ∨ (k = 0 ∨ k = 1 ∨ k = 6 ∨ k = 7) by omega) with rfl | rfl | rfl | rfl | rfl | hgen
    · have hl0 : s.size = 0 ∧ l = [] := by rcases hk with ⟨_, a, b⟩ | ⟨h, _⟩ | ⟨h, _⟩ | ⟨h, _⟩ | ⟨h, _⟩ <;> first | exact ⟨a, b⟩ | omega
      obtain ⟨hs0, rfl⟩ := hl0
      have C := ref_PutFloat nn.toNat (by omega)
      rw [show ((nn.toNat : Nat) : Int) = nn by omega] at C
      have HE : RowKit.Hid (∀ z k', Shortest nn.toNat z k' → hlay 7 k' z = It.renc (.mk 8 nn s [])) := Lib.hid (fun z k' hsh => by
        rw [HREN.out, sbytes_zero hs0, if_neg (by decide)]
        simp only [rencs, List.flatten_nil, List.append_nil]
        unfold hdK
        rw [if_pos rfl, fhead_of hsh])
      have HC := Lib.hid C
      clear C hk hok' hok hsz hsz' hll hhd hren h hn hc S b1 hs0
      simp only [vI, It.k, It.n, It.s, It.l, List.length_nil] at *
      go_enter Tryz.func18, Tryz.ntmps18
      go_wp2_with (go_at_call 27; refine (HC.out _).mono ?_; rintro e w2 ⟨z, k', hsh, v, rfl, ho, hb⟩; have HCV := conv_own ho; rw [HE.out z k' hsh] at HCV; have HB := Lib.hid hb; clear hsh ho hb)
      go_ret
      exact ⟨rfl, HS.out.trans (HB.out.mono HS.out.size)⟩
    · have hl0 : nn = 0 ∧ l = [] := by rcases hk with ⟨h, _⟩ | ⟨_, a, b⟩ | ⟨h, _⟩ | ⟨h, _⟩ | ⟨h, _⟩ <;> first | exact ⟨a, b⟩ | omega
      obtain ⟨rfl, rfl⟩ := hl0
      have C := fun W => ref_hput 2 s.size (by decide) (by decide) (by omega) (by omega) W
      have HR : RowKit.Hid (It.renc (.mk 2 0 s []) = hputL 2 s.size ++ sbytes s) := Lib.hid (by
        rw [HREN.out, if_neg (by decide)]
        simp only [rencs, List.flatten_nil, List.append_nil]
        congr 1)
      have hq9 := hput_length 2 (s.size : Int)
      have hsz2 : s.size ≤ 1000000000 := by omega
      have hcell : ∀ W, Below w1.heap.size w1 W → W.cell? ⟨w.heap.size, 0, none⟩ = some (.int .i64 2) ∧ W.cell? ⟨w.heap.size, 1, none⟩ = some (.int .u64 0) ∧ W.cell? ⟨w.heap.size, 2, none⟩ = some (.string s) ∧ W.cell? ⟨w.heap.size, 3, none⟩ = some (.slice A 0 cap) := fun W hb => by
        obtain ⟨r0, r1, r2, r3, -⟩ := iblk (b1.on hb)
        exact ⟨r0, r1, r2, r3⟩
      have HCELL := Lib.hid hcell
      have HADD := fun w => run_saddS (P := Tryz.prog) (hputL 2 s.size) s (by omega) w
      rw [← HR.out] at HADD
      clear HR HREN
      generalize It.renc (.mk 2 0 s []) = EN at *
      generalize hputL 2 s.size = he at *
      have HC := Lib.hid C
      clear C hk hok' hok hsz hsz' hll hhd hren h hn hc S b1 hcell hq9
      simp only [vI, It.k, It.n, It.s, It.l, List.length_nil] at *
      obtain ⟨z, hz⟩ : ∃ z, s.size = z := ⟨_, rfl⟩
      rw [hz] at hsz2 HC
      have hzI : (z : Int) ≤ 1000000000 := by omega
      have hwz : IntKind.u64.wrap (z : Int) = (z : Int) := IntWalk.u64_in _ (by omega)
      clear hsz2
      go_enter Tryz.func18, Tryz.ntmps18
      go_wp2_with fail
      have cS := HCELL.out w1.drew (below_drawn (Below.refl _ _))
      obtain ⟨cs0, cs1, cs2, cs3⟩ := cS
      go_region_law ((go_simp; go_at_call 28; refine (HC.out _).mono ?_; rintro e w2 ⟨v, rfl, ho, hb⟩; have HCV := conv_own ho; have HB := Lib.hid hb; obtain ⟨ct0, ct1, ct2, ct3⟩ := HCELL.out w2 ((below_drawn (Below.refl _ _)).trans hb); clear ho hb))
      all_goals
        go_wp2_with fail
        go_ret
        exact ⟨rfl, HS.out.trans ((below_drawn (Below.refl w1.heap.size w1) |>.trans HB.out).mono HS.out.size)⟩
    · have hl0 : nn = 0 ∧ l = [] := by rcases hk with ⟨h, _⟩ | ⟨_, a, b⟩ | ⟨h, _⟩ | ⟨h, _⟩ | ⟨h, _⟩ <;> first | exact ⟨a, b⟩ | omega
      obtain ⟨rfl, rfl⟩ := hl0
      have C := fun W => ref_hput 3 s.size (by decide) (by decide) (by omega) (by omega) W
      have HR : RowKit.Hid (It.renc (.mk 3 0 s []) = hputL 3 s.size ++ sbytes s) := Lib.hid (by
        rw [HREN.out, if_neg (by decide)]
        simp only [rencs, List.flatten_nil, List.append_nil]
        congr 1)
      have hq9 := hput_length 3 (s.size : Int)
      have hsz2 : s.size ≤ 1000000000 := by omega
      have hcell : ∀ W, Below w1.heap.size w1 W → W.cell? ⟨w.heap.size, 0, none⟩ = some (.int .i64 3) ∧ W.cell? ⟨w.heap.size, 1, none⟩ = some (.int .u64 0) ∧ W.cell? ⟨w.heap.size, 2, none⟩ = some (.string s) ∧ W.cell? ⟨w.heap.size, 3, none⟩ = some (.slice A 0 cap) := fun W hb => by
        obtain ⟨r0, r1, r2, r3, -⟩ := iblk (b1.on hb)
        exact ⟨r0, r1, r2, r3⟩
      have HCELL := Lib.hid hcell
      have HADD := fun w => run_saddS (P := Tryz.prog) (hputL 3 s.size) s (by omega) w
      rw [← HR.out] at HADD
      clear HR HREN
      generalize It.renc (.mk 3 0 s []) = EN at *
      generalize hputL 3 s.size = he at *
      have HC := Lib.hid C
      clear C hk hok' hok hsz hsz' hll hhd hren h hn hc S b1 hcell hq9
      simp only [vI, It.k, It.n, It.s, It.l, List.length_nil] at *
      obtain ⟨z, hz⟩ : ∃ z, s.size = z := ⟨_, rfl⟩
      rw [hz] at hsz2 HC
      have hzI : (z : Int) ≤ 1000000000 := by omega
      have hwz : IntKind.u64.wrap (z : Int) = (z : Int) := IntWalk.u64_in _ (by omega)
      clear hsz2
      go_enter Tryz.func18, Tryz.ntmps18
      go_wp2_with fail
      have cS := HCELL.out w1.drew (below_drawn (Below.refl _ _))
      obtain ⟨cs0, cs1, cs2, cs3⟩ := cS
      go_region_law ((go_simp; go_at_call 28; refine (HC.out _).mono ?_; rintro e w2 ⟨v, rfl, ho, hb⟩; have HCV := conv_own ho; have HB := Lib.hid hb; obtain ⟨ct0, ct1, ct2, ct3⟩ := HCELL.out w2 ((below_drawn (Below.refl _ _)).trans hb); clear ho hb))
      all_goals
        go_wp2_with fail
        go_ret
        exact ⟨rfl, HS.out.trans ((below_drawn (Below.refl w1.heap.size w1) |>.trans HB.out).mono HS.out.size)⟩
    · have hev : l.length % 2 = 0 := even5 hok'.1 rfl
      have hs0 : s.size = 0 := by rcases hk with ⟨h, _⟩ | ⟨h, _⟩ | ⟨h, _⟩ | ⟨_, _, h, _⟩ | ⟨h, _⟩ <;> first | exact h | omega
      have hokl := hok'.2
      have HOKL := Lib.hid hokl
      have HH := Lib.hid h
      have HN := Lib.hid hn
      have HSZ := Lib.hid (fun _ : Unit => hsz')
      have HCC := Lib.hid (fun _ : Unit => hc)
      have hhe : hdK 5 nn s.size l.length = hputL 5 ((l.length : Int) / 2) := by unfold hdK; rw [if_neg (by decide), if_neg (by decide), if_neg (by decide), if_pos rfl]; congr 1
      have HC := Lib.hid (fun W => ref_hput 5 ((l.length : Int) / 2) (by decide) (by decide) (by omega) (by omega) W)
      rw [hhe, if_pos rfl, sbytes_zero hs0, List.nil_append] at HREN
      have HQ9 := Lib.hid (hput_length 5 ((l.length : Int) / 2))
      generalize hputL 5 ((l.length : Int) / 2) = he at *
      have hml : (l.length : Int) < 1000000001 := by omega
      have hIH := fun (X : It) (A' : Option Addr) (c' : Nat) (W : World) (mX : X ∈ l) (hW : n ≤ W.heap.size) (hx : AtB W n X A' c') => IH.out X A' c' n W (by
        have h1 := count_le_of_mem mX
        have h2 := HCC.out ()
        rw [It.count_eq] at h2
        have h3 : (It.mk 5 nn s l).l = l := rfl
        rw [h3] at h2
        omega) (okEL_iff.1 HOKL.out X mX) (by
        have h1 : X.bulk ≤ (It.mk 5 nn s l).bulk := bulk_sub (x := .mk 5 nn s l) mX
        rw [It.bulk] at h1
        have := HSZ.out ()
        omega) hW hx
      have hbX : ∀ X ∈ l, X.renc.length ≤ 1000000000 := fun X mX => by
        have h1 := renc_bulk (okEL_iff.1 HOKL.out X mX)
        have h2 : X.bulk ≤ (It.mk 5 nn s l).bulk := bulk_sub (x := .mk 5 nn s l) mX
        rw [It.bulk] at h2
        have := HSZ.out ()
        omega
      have hO := fun (W : World) (hW : Below w.heap.size w W) => ref_order (.mk 5 nn s l) A cap n W (fun i => strOfNums ((rencs l).getD (2 * i) [])) (by show l.length ≤ _; omega) (Nat.le_trans HN.out hW.size) (HH.out.keep (hW.mono HN.out)) (fun i => by
        rw [strOfNums_size]
        by_cases hi : 2 * i < l.length
        · rw [rencs_get (List.getElem?_eq_getElem hi)]
          exact hbX _ (List.getElem_mem hi)
        · rw [List.getD_eq_getElem?_getD, List.getElem?_eq_none (by rw [length_rencs]; omega)]
          simp) (fun i X A' c' W' hX hW' hx => by
        have hX : l[2 * i]? = some X := hX
        rw [rencs_get hX]
        exact hIH X A' c' W' (List.mem_of_getElem? hX) hW' hx)
      have hmap : mapEnc (rencs l) = (((ordS (fun i => strOfNums ((rencs l).getD (2 * i) [])) (l.length / 2)).2.map fun o : Int => (rencs l).getD o.toNat [] ++ (rencs l).getD (o.toNat + 1) []).flatten) := by unfold mapEnc; rw [length_rencs]
      have hos : ∀ v ∈ (ordS (fun i => strOfNums ((rencs l).getD (2 * i) [])) (l.length / 2)).2, ∃ t, t < l.length / 2 ∧ v = ((2 * t : Nat) : Int) := fun v hv => ordS_mem hv
      have hlo := (length_ordS (fun i => strOfNums ((rencs l).getD (2 * i) [])) (l.length / 2)).2
      have htot : ∀ j, (((((ordS (fun i => strOfNums ((rencs l).getD (2 * i) [])) (l.length / 2)).2.take j).map fun o : Int => (rencs l).getD o.toNat [] ++ (rencs l).getD (o.toNat + 1) []).flatten).length) ≤ 1000000000 := fun j => by
        have h1 := length_mapEnc (es := rencs l) (by rw [length_rencs]; exact hev)
        have h2 := rencs_length l hokl
        have h3 := encL_length l
        rw [hmap] at h1
        have h4 : (((((ordS (fun i => strOfNums ((rencs l).getD (2 * i) [])) (l.length / 2)).2.take j).map fun o : Int => (rencs l).getD o.toNat [] ++ (rencs l).getD (o.toNat + 1) []).flatten).length) ≤ ((((ordS (fun i => strOfNums ((rencs l).getD (2 * i) [])) (l.length / 2)).2.map fun o : Int => (rencs l).getD o.toNat [] ++ (rencs l).getD (o.toNat + 1) []).flatten).length) := by
          conv => rhs; rw [← List.take_append_drop j (ordS (fun i => strOfNums ((rencs l).getD (2 * i) [])) (l.length / 2)).2, List.map_append, List.flatten_append, List.length_append]
          omega
        have := HSZ.out ()
        omega
      simp only [vI] at hIH hO
      have hl5 : (It.mk 5 nn s l).l = l := rfl
      rw [hl5] at hO
      rw [hmap] at HREN
      generalize (ordS (fun i => strOfNums ((rencs l).getD (2 * i) [])) (l.length / 2)).2 = os at *
      have HIH := Lib.hid hIH
      have HO := Lib.hid hO
      have HOS := Lib.hid hos
      have HBX := Lib.hid (fun _ : Unit => hbX)
      have HTOT := Lib.hid (fun _ : Unit => htot)
      clear hIH IH hk hok' hok hsz hsz' hll hhd hren h hn hc S b1 hokl hs0 hO hos hmap hbX htot hl5 hhe
      simp only [vI, It.k, It.n, It.s, It.l]
      generalize It.renc (.mk 5 nn s l) = EN at *
      obtain ⟨m, hm⟩ : ∃ m, l.length = m := ⟨_, rfl⟩
      obtain ⟨q, hq⟩ : ∃ q, m / 2 = q := ⟨_, rfl⟩
      rw [hm] at hml p3 hw1 HB1 HO hlo hev ⊢
      rw [hm] at HC
      rw [hm, hq] at HOS
      rw [hq] at hlo
      have HM := Lib.hid hm
      have HLO := Lib.hid hlo
      have hqm : 2 * q = m := by omega
      have HQM := Lib.hid hqm
      have hd : (m : Int).tdiv 2 = (m : Int) / 2 := Int.tdiv_eq_ediv_of_nonneg (by omega)
      have hwm : IntKind.u64.wrap ((m : Int) / 2) = (m : Int) / 2 := IntWalk.u64_in _ (by omega)
      have hqI : (q : Int) < 1000000001 := by omega
      clear hm hlo hev hqm hq
      go_enter Tryz.func18, Tryz.ntmps18
      go_wp2_with (first
        | (go_at_call 28; refine (HC.out _).mono ?_; rintro e w2 ⟨v, rfl, ho, hb⟩; have HCV := conv_own ho; have HB := Lib.hid (HS.out.trans (hb.mono HS.out.size)); have HBK := Lib.hid (HB1.out.on hb); obtain ⟨r0, r1, r2, r3, -⟩ := iblk HBK.out; clear ho hb)
        | (go_at_call 29; refine (HO.out _ HB.out).mono ?_; rintro e w3 ⟨vo, rfl, ho, hb⟩; have HOW := Lib.hid ho; have HB3 := Lib.hid (HB.out.trans (hb.mono HB.out.size)); have HBK3 := Lib.hid (HBK.out.on hb); have HGE := Lib.hid hb.size; clear ho hb))
      obtain ⟨AO, co, rfl, hc1, hc2, hc3, hc4, hc5⟩ := HOW.out.form
      rw [HLO.out] at HOW ⊢
      clear hc1 hc2 hc3 hc4 hc5 p0 p1 p2 p3 hw1 r0 r1 r2 r3 HCV hwm hd HC HO HB HBK HB1
      go_loopw [3, 5] (fun sv i wr => ∃ j : Nat, j ≤ q ∧ i = .int .i64 (j : Int) ∧ RowKit.Hid (sv = .string (strOfNums (he ++ ((os.take j).map fun o : Int => (rencs l).getD o.toNat [] ++ (rencs l).getD (o.toNat + 1) []).flatten))) ∧ RowKit.Hid (Below w3.heap.size w3 wr)) (fun _ i _ => q - (intOf i).toNat)
      case atStart => exact ⟨0, by omega, rfl, Lib.hid (by simp), Lib.hid (Below.refl _ _)⟩
      case round =>
        obtain ⟨j, hj, rfl, hsv, HBr⟩ := hrel
        have hsv := hsv.out
        subst hsv
        by_cases hlt : j < q
        · as_aux_lemma =>
          have HBW := Lib.hid (HB3.out.trans (HBr.out.mono HB3.out.size))
          have hbn := HBW.out.mono HN.out
          have hjo : j < os.length := by rw [HLO.out]; exact hlt
          obtain ⟨t, ht, hv⟩ := HOS.out (os.getD j 0) (by rw [List.getD_eq_getElem?_getD, List.getElem?_eq_getElem hjo]; exact List.getElem_mem hjo)
          have HOr := HOW.out.below HBr.out
          obtain ⟨go, cg, hvg⟩ := HOr.head (by omega)
          injection hvg with hv1 hv2 hv3
          subst hv1 hv3
          have hcell := (HOr.at hjo).1
          rw [hv] at hcell
          have h2m : 2 * t + 1 < l.length := by rw [HM.out, ← HQM.out]; omega
          obtain ⟨b, o, X, A', c', rfl, -, hb1, hX, mX, x0, x1, x2, x3, hx⟩ := (HH.out.keep hbn).item (i := 2 * t) (by show 2 * t < l.length; omega)
          obtain ⟨b', o', Y, A2, c2, hA, -, hb2, hY, mY, z0, z1, z2, z3, hy⟩ := (HH.out.keep hbn).item (i := 2 * t + 1) (by show 2 * t + 1 < l.length; omega)
          injection hA with hA
          injection hA with hA1 hA2 _
          subst hA1 hA2
          have hX : l[2 * t]? = some X := hX
          have hY : l[2 * t + 1]? = some Y := hY
          have mX : X ∈ l := mX
          have mY : Y ∈ l := mY
          have hBr : w.heap.size ≤ wr.heap.size := HBW.out.size
          have HTK := Lib.hid (show ((os.take (j + 1)).map fun o : Int => (rencs l).getD o.toNat [] ++ (rencs l).getD (o.toNat + 1) []).flatten = ((os.take j).map fun o : Int => (rencs l).getD o.toNat [] ++ (rencs l).getD (o.toNat + 1) []).flatten ++ (X.renc ++ Y.renc) by
            have e1 : os.take (j + 1) = os.take j ++ [((2 * t : Nat) : Int)] := by
              rw [List.take_add_one, List.getElem?_eq_getElem hjo, ← hv]
              simp [List.getD_eq_getElem?_getD, hjo]
            rw [e1, List.map_append, List.flatten_append]
            simp only [List.map_cons, List.map_nil, List.flatten_cons, List.flatten_nil, List.append_nil, Int.toNat_natCast]
            rw [rencs_get hX, rencs_get hY])
          have hs1 := HTOT.out () j
          have hs2 := HBX.out () X mX
          have hs3 := HBX.out () Y mY
          have hq9 := HQ9.out
          generalize hz1 : ((os.take j).map fun o : Int => (rencs l).getD o.toNat [] ++ (rencs l).getD (o.toNat + 1) []).flatten = zz at *
          have HADD1 := fun w => run_sadd (P := Tryz.prog) (he ++ zz) X.renc (by rw [List.length_append]; omega) w
          have HADD2 := fun w => run_sadd (P := Tryz.prog) (he ++ zz ++ X.renc) Y.renc (by rw [List.length_append, List.length_append]; omega) w
          have e3 : he ++ zz ++ X.renc ++ Y.renc = he ++ ((os.take (j + 1)).map fun o : Int => (rencs l).getD o.toNat [] ++ (rencs l).getD (o.toNat + 1) []).flatten := by rw [HTK.out]; simp [List.append_assoc]
          rw [e3] at HADD2
          have up := fun dq osq => (HBW.out.trans ((below_regrown wr dq osq).mono hBr))
          have hxr := fun dq osq => hx.keep ((below_regrown wr dq osq).mono (Nat.le_trans HN.out hBr))
          have hyr := fun dq osq => hy.keep ((below_regrown wr dq osq).mono (Nat.le_trans HN.out hBr))
          have KG := Lib.hid (fun (X : It) (A' : Option Addr) (c' dq : Nat) (osq : Array Obj) (mX : X ∈ l) (hx : AtB (grow (redrawn wr dq) osq) n X A' c') => Calls.regrown_of (HIH.out X A' c' (grow (redrawn wr dq) osq) mX (Nat.le_trans HN.out (up dq osq).size) hx))
          have HXR := Lib.hid hxr
          have HYR := Lib.hid hyr
          have MX := Lib.hid mX
          have MY := Lib.hid mY
          obtain ⟨V, hV⟩ : ∃ V, 2 * t = V := ⟨_, rfl⟩
          obtain ⟨U, hU⟩ : ∃ U, 2 * t + 1 = U := ⟨_, rfl⟩
          rw [hV] at x0 x1 x2 x3 hcell
          rw [hU] at z0 z1 z2 z3
          obtain ⟨s0, s1, s2, s3, -⟩ := iblk (HBK3.out.on HBr.out)
          have kx0 := cell_regrown x0
          have kx1 := cell_regrown x1
          have kx2 := cell_regrown x2
          have kx3 := cell_regrown x3
          have kz0 := cell_regrown z0
          have kz1 := cell_regrown z1
          have kz2 := cell_regrown z2
          have kz3 := cell_regrown z3
          have ks3 := cell_regrown s3
          have kc := cell_regrown hcell
          have hUV : IntKind.i64.wrap ((V : Int) + 1) = (U : Int) := by rw [IntWalk.i64_in _ (by omega)]; omega
          have hVI : (V : Int) < m := by have := HQM.out; omega
          have hUI : (U : Int) < m := by have := HQM.out; omega
          have hji : (j : Int) < q := by omega
          obtain ⟨z2', hz2⟩ : ∃ z, he ++ ((os.take (j + 1)).map fun o : Int => (rencs l).getD o.toNat [] ++ (rencs l).getD (o.toNat + 1) []).flatten = z := ⟨_, rfl⟩
          rw [hz2] at HADD2
          have HZ2 := Lib.hid hz2
          clear hX hY mX mY hx hy hbn HTK hs1 hs2 hs3 hq9 e3 up hxr hyr hV hU x0 x1 x2 x3 z0 z1 z2 z3 s0 s1 s2 s3 hcell ht hv h2m hjo HOr hz1 hz2 hv2
          generalize he ++ zz = z4 at *
          generalize z4 ++ X.renc = z5 at *
          go_wp2_with fail
          refine wp_region_quiet_below (by kernel_rfl) (by kernel_rfl) ?_
          repeat (quiet_step (refine KG.out _ _ _ _ _ ?_ ?_ <;> first | exact MX.out | exact MY.out | exact HXR.out _ _ | exact HYR.out _ _))
          refine wpQuiet_nil ?_
          intro _ hw'
          obtain ⟨⟨dq, osq⟩, hw''⟩ := hw'
          subst hw''
          have HB9 := Lib.hid (HBr.out.trans ((below_regrown wr dq osq).mono HBr.out.size))
          generalize grow (redrawn wr dq) osq = w9 at *
          go_wp2_with fail
          go_roundw
          case rel => exact ⟨j + 1, by omega, by simp, Lib.hid (by rw [HZ2.out]), HB9⟩
          case measure => simp [intOf]; omega
        · obtain rfl : j = q := by omega
          have hfull : os.take j = os := by rw [← HLO.out, List.take_length]
          rw [hfull]
          rw [← HREN.out]
          clear hqI
          go_wp2_with fail
          go_ret
          exact ⟨rfl, HB3.out.trans (HBr.out.mono HB3.out.size)⟩
    · have hokl := hok'.2
      have HOKL := Lib.hid hokl
      have HH := Lib.hid h
      have HN := Lib.hid hn
      have HSZ := Lib.hid (fun _ : Unit => hsz')
      have HCC := Lib.hid (fun _ : Unit => hc)
      have HB1' := HB1
      have hs0 : s.size = 0 := by rcases hk with ⟨h, _⟩ | ⟨h, _⟩ | ⟨_, _, h⟩ | ⟨h, _⟩ | ⟨h, _⟩ <;> first | exact h | omega
      have hhe : hdK 4 nn s.size l.length = hputL 4 l.length := by unfold hdK; rw [if_neg (by decide), if_neg (by decide), if_pos rfl]
      have HC := Lib.hid (fun W => ref_hput 4 l.length (by decide) (by decide) (by omega) (by omega) W)
      rw [hhe] at HREN
      have HQ9 := Lib.hid (hput_length 4 (l.length : Int))
      generalize hputL 4 (l.length : Int) = he at *
      have hml : (l.length : Int) < 1000000001 := by omega
      have hIH := fun (X : It) (A' : Option Addr) (c' : Nat) (W : World) (mX : X ∈ l) (hW : n ≤ W.heap.size) (hx : AtB W n X A' c') => IH.out X A' c' n W (by
        have h1 := count_le_of_mem mX
        have h2 := HCC.out ()
        rw [It.count_eq] at h2
        have h3 : (It.mk 4 nn s l).l = l := rfl
        rw [h3] at h2
        omega) (okEL_iff.1 HOKL.out X mX) (by
        have h1 : X.bulk ≤ (It.mk 4 nn s l).bulk := bulk_sub (x := .mk 4 nn s l) mX
        rw [It.bulk] at h1
        have := HSZ.out ()
        omega) hW hx
      simp only [vI] at hIH
      have HIH := Lib.hid hIH
      have HS0 := Lib.hid hs0
      clear hIH IH hk hok' hok hsz hsz' hll hhd hren h hn hc S b1 hokl hs0
      simp only [vI, It.k, It.n, It.s, It.l]
      generalize It.renc (.mk 4 nn s l) = EN at *
      obtain ⟨m, hm⟩ : ∃ m, l.length = m := ⟨_, rfl⟩
      rw [hm] at hml p3 hw1 HB1 ⊢
      (try rw [hm] at HC)
      have HM := Lib.hid hm
      have hwm : IntKind.u64.wrap (m : Int) = (m : Int) := IntWalk.u64_in _ (by omega)
      clear hm
      go_enter Tryz.func18, Tryz.ntmps18
      go_wp2_with (go_at_call 28; refine (HC.out _).mono ?_; rintro e w2 ⟨v, rfl, ho, hb⟩; have HCV := conv_own ho; have HB := Lib.hid (HS.out.trans (hb.mono HS.out.size)); have HBK := Lib.hid (HB1.out.on hb); obtain ⟨r0, r1, r2, r3, -⟩ := iblk HBK.out; clear ho hb)
      clear p0 p1 p2 p3 hw1 r0 r1 r2 r3 HCV
      go_loopw [7, 8] (fun sv i wr => ∃ j : Nat, j ≤ m ∧ i = .int .i64 (j : Int) ∧ RowKit.Hid (sv = .string (strOfNums (he ++ (rencs (l.take j)).flatten))) ∧ RowKit.Hid (Below w.heap.size w wr) ∧ RowKit.Hid (Blk wr w.heap.size 25 #[.int .i64 4, .int .u64 nn, .string s, .slice A m cap])) (fun _ i _ => m - (intOf i).toNat)
      case atStart => exact ⟨0, by omega, rfl, Lib.hid (by simp [rencs]), HB, HBK⟩
      case round =>
        obtain ⟨j, hj, rfl, hsv, HBr, HBKr⟩ := hrel
        have hsv := hsv.out
        subst hsv
        obtain ⟨y0, y1, y2, y3, -⟩ := iblk HBKr.out
        by_cases hlt : j < m
        · as_aux_lemma =>
          have hbn := HBr.out.mono HN.out
          obtain ⟨b, o, X, A', c', rfl, -, hb1, hX, mX, x0, x1, x2, x3, hx⟩ := (HH.out.keep hbn).item (i := j) (by show j < l.length; rw [HM.out]; exact hlt)
          have hX : l[j]? = some X := hX
          have mX : X ∈ l := mX
          have htk := (take_at hX).1
          have hBr : w.heap.size ≤ wr.heap.size := HBr.out.size
          have C := HIH.out X A' c' wr mX (Nat.le_trans HN.out hBr) hx
          have HTK := Lib.hid (show (rencs (l.take (j + 1))).flatten = (rencs (l.take j)).flatten ++ X.renc by rw [htk, flat_append]; simp [rencs])
          have hsum : he.length + (rencs (l.take j)).flatten.length + X.renc.length ≤ 2000000000 := by
            have h1 := rencs_length (l.take (j + 1)) (okEL_iff.2 fun t ht => okEL_iff.1 HOKL.out t (List.mem_of_mem_take ht))
            have h2 := encL_length (l.take (j + 1))
            have h3 : bulkL (l.take (j + 1)) ≤ bulkL l := by
              have := bulkL_append (l.take (j + 1)) (l.drop (j + 1))
              rw [List.take_append_drop] at this
              omega
            have h4 := HSZ.out ()
            rw [HTK.out, List.length_append] at h1
            have := HQ9.out
            omega
          have HADD := fun w => run_sadd (P := Tryz.prog) (he ++ (rencs (l.take j)).flatten) X.renc (by rw [List.length_append]; omega) w
          rw [List.append_assoc, ← HTK.out] at HADD
          have HC := Lib.hid C
          have hji : (j : Int) < m := by omega
          clear C hX mX htk hx hbn hsum HTK
          generalize (rencs (l.take j)).flatten = z1 at *
          obtain ⟨z2, hz2⟩ : ∃ z2, he ++ (rencs (l.take (j + 1))).flatten = z2 := ⟨_, rfl⟩
          rw [hz2] at HADD
          have HZ2 := Lib.hid hz2
          generalize X.renc = z3 at *
          generalize he ++ z1 = z4 at *
          clear hz2
          go_wp2_with (go_at_call 18; refine HC.out.mono ?_; rintro e w6 ⟨rfl, hb⟩; have HB6 := Lib.hid hb; clear hb)
          go_roundw
          case rel => exact ⟨j + 1, by omega, by simp, Lib.hid (by rw [HZ2.out]), Lib.hid (HBr.out.trans (HB6.out.mono hBr)), Lib.hid (HBKr.out.on HB6.out)⟩
          case measure => simp [intOf]; omega
        · obtain rfl : j = m := by omega
          have hfull : l.take j = l := by rw [← HM.out, List.take_length]
          rw [hfull]
          have he2 : he ++ (rencs l).flatten = EN := by rw [HREN.out, sbytes_zero HS0.out, if_neg (by decide)]; simp
          rw [he2]
          clear hml
          go_wp2_with fail
          go_ret
          exact ⟨rfl, HBr.out⟩
    · have hokl := hok'.2
      have HOKL := Lib.hid hokl
      have HH := Lib.hid h
      have HN := Lib.hid hn
      have HSZ := Lib.hid (fun _ : Unit => hsz')
      have HCC := Lib.hid (fun _ : Unit => hc)
      have HB1' := HB1
      have hs0 : s.size = 0 := by rcases hk with ⟨_, h, _⟩ | ⟨h, _⟩ | ⟨h, _⟩ | ⟨h, _⟩ | ⟨_, h, _⟩ <;> first | exact h | omega
      have hhe : hdK k nn s.size l.length = hputL k nn := by unfold hdK; rw [if_neg (by omega), if_neg (by omega), if_neg (by omega), if_neg (by omega)]; congr 1; omega
      have HC := Lib.hid (fun W => ref_hput k nn (by omega) (by omega) hn0 hn1 W)
      rw [hhe] at HREN
      have HQ9 := Lib.hid (hput_length k nn)
      generalize hputL k nn = he at *
      have n8 : (k == 8) = false := by simp; omega
      have n2 : (k == 2) = false := by simp; omega
      have n3 : (k == 3) = false := by simp; omega
      have n4 : (k == 4) = false := by simp; omega
      have n5 : (k == 5) = false := by simp; omega
      have k5 : k ≠ 5 := by omega
      clear hgen hhe
      have hml : (l.length : Int) < 1000000001 := by omega
      have hIH := fun (X : It) (A' : Option Addr) (c' : Nat) (W : World) (mX : X ∈ l) (hW : n ≤ W.heap.size) (hx : AtB W n X A' c') => IH.out X A' c' n W (by
        have h1 := count_le_of_mem mX
        have h2 := HCC.out ()
        rw [It.count_eq] at h2
        have h3 : (It.mk k nn s l).l = l := rfl
        rw [h3] at h2
        omega) (okEL_iff.1 HOKL.out X mX) (by
        have h1 : X.bulk ≤ (It.mk k nn s l).bulk := bulk_sub (x := .mk k nn s l) mX
        rw [It.bulk] at h1
        have := HSZ.out ()
        omega) hW hx
      simp only [vI] at hIH
      have HIH := Lib.hid hIH
      have HS0 := Lib.hid hs0
      clear hIH IH hk hok' hok hsz hsz' hll hhd hren h hn hc S b1 hokl hs0
      simp only [vI, It.k, It.n, It.s, It.l]
      generalize It.renc (.mk k nn s l) = EN at *
      obtain ⟨m, hm⟩ : ∃ m, l.length = m := ⟨_, rfl⟩
      rw [hm] at hml p3 hw1 HB1 ⊢
      (try rw [hm] at HC)
      have HM := Lib.hid hm
      have hwm : IntKind.u64.wrap (m : Int) = (m : Int) := IntWalk.u64_in _ (by omega)
      clear hm
      go_enter Tryz.func18, Tryz.ntmps18
      go_wp2_with (go_at_call 28; refine (HC.out _).mono ?_; rintro e w2 ⟨v, rfl, ho, hb⟩; have HCV := conv_own ho; have HB := Lib.hid (HS.out.trans (hb.mono HS.out.size)); have HBK := Lib.hid (HB1.out.on hb); obtain ⟨r0, r1, r2, r3, -⟩ := iblk HBK.out; clear ho hb)
      clear p0 p1 p2 p3 hw1 r0 r1 r2 r3 HCV
      go_loopw [7, 8] (fun sv i wr => ∃ j : Nat, j ≤ m ∧ i = .int .i64 (j : Int) ∧ RowKit.Hid (sv = .string (strOfNums (he ++ (rencs (l.take j)).flatten))) ∧ RowKit.Hid (Below w.heap.size w wr) ∧ RowKit.Hid (Blk wr w.heap.size 25 #[.int .i64 k, .int .u64 nn, .string s, .slice A m cap])) (fun _ i _ => m - (intOf i).toNat)
      case atStart => exact ⟨0, by omega, rfl, Lib.hid (by simp [rencs]), HB, HBK⟩
      case round =>
        obtain ⟨j, hj, rfl, hsv, HBr, HBKr⟩ := hrel
        have hsv := hsv.out
        subst hsv
        obtain ⟨y0, y1, y2, y3, -⟩ := iblk HBKr.out
        by_cases hlt : j < m
        · as_aux_lemma =>
          have hbn := HBr.out.mono HN.out
          obtain ⟨b, o, X, A', c', rfl, -, hb1, hX, mX, x0, x1, x2, x3, hx⟩ := (HH.out.keep hbn).item (i := j) (by show j < l.length; rw [HM.out]; exact hlt)
          have hX : l[j]? = some X := hX
          have mX : X ∈ l := mX
          have htk := (take_at hX).1
          have hBr : w.heap.size ≤ wr.heap.size := HBr.out.size
          have C := HIH.out X A' c' wr mX (Nat.le_trans HN.out hBr) hx
          have HTK := Lib.hid (show (rencs (l.take (j + 1))).flatten = (rencs (l.take j)).flatten ++ X.renc by rw [htk, flat_append]; simp [rencs])
          have hsum : he.length + (rencs (l.take j)).flatten.length + X.renc.length ≤ 2000000000 := by
            have h1 := rencs_length (l.take (j + 1)) (okEL_iff.2 fun t ht => okEL_iff.1 HOKL.out t (List.mem_of_mem_take ht))
            have h2 := encL_length (l.take (j + 1))
            have h3 : bulkL (l.take (j + 1)) ≤ bulkL l := by
              have := bulkL_append (l.take (j + 1)) (l.drop (j + 1))
              rw [List.take_append_drop] at this
              omega
            have h4 := HSZ.out ()
            rw [HTK.out, List.length_append] at h1
            have := HQ9.out
            omega
          have HADD := fun w => run_sadd (P := Tryz.prog) (he ++ (rencs (l.take j)).flatten) X.renc (by rw [List.length_append]; omega) w
          rw [List.append_assoc, ← HTK.out] at HADD
          have HC := Lib.hid C
          have hji : (j : Int) < m := by omega
          clear C hX mX htk hx hbn hsum HTK
          generalize (rencs (l.take j)).flatten = z1 at *
          obtain ⟨z2, hz2⟩ : ∃ z2, he ++ (rencs (l.take (j + 1))).flatten = z2 := ⟨_, rfl⟩
          rw [hz2] at HADD
          have HZ2 := Lib.hid hz2
          generalize X.renc = z3 at *
          generalize he ++ z1 = z4 at *
          clear hz2
          go_wp2_with (go_at_call 18; refine HC.out.mono ?_; rintro e w6 ⟨rfl, hb⟩; have HB6 := Lib.hid hb; clear hb)
          go_roundw
          case rel => exact ⟨j + 1, by omega, by simp, Lib.hid (by rw [HZ2.out]), Lib.hid (HBr.out.trans (HB6.out.mono hBr)), Lib.hid (HBKr.out.on HB6.out)⟩
          case measure => simp [intOf]; omega
        · obtain rfl : j = m := by omega
          have hfull : l.take j = l := by rw [← HM.out, List.take_length]
          rw [hfull]
          have he2 : he ++ (rencs l).flatten = EN := by rw [HREN.out, sbytes_zero HS0.out, if_neg (by exact k5)]; simp
          rw [he2]
          clear hml
          go_wp2_with fail
          go_ret
          exact ⟨rfl, HBr.out⟩
end Go.Proofs.YtgcgidoikpbfpaaGreat
