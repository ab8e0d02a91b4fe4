
/-
  PROVED: the law BlakeChunks returns true for every list of lists of bytes, and leaves its argument as it was (Rows.BlakeChunksCardSaid: the tied card). Conditions: none beside the row's own; the tables blake.iv, blake.table and blake.places hold what their initialisers lay.
-/
import Derived.Test.YtgcboodlneknpaaDoorBlakeAwake
import Derived.Test.YtgcboodlneknpaaDoorSame
import Derived.Test.YtgcboodlneknpaaDoorRd2
import Derived.Test.YtgcboodlneknpaaDoorBlakeLaid
import Derived.Test.YtgcboodlneknpaaDoorCards
import Derived.Test.YtgcboodlneknpaaDoorTie
namespace Go.Proofs.YtgcboodlneknpaaDoor.blakeChunks
open Go.ChangeShapes Go.WideShapes Go.ChangeAt Go.RowKit

/-- All pieces up to the k-th. -/
def cat (Z : Nat → List Int) (k : Nat) : List Int := ((List.range k).map Z).flatten
theorem cat_succ (Z : Nat → List Int) (k : Nat) : cat Z (k + 1) = cat Z k ++ Z k := by simp [cat, List.range_succ]
theorem byte_cat (Z : Nat → List Int) : ∀ k, (∀ r, r < k → ByteL (Z r)) → ByteL (cat Z k)
  | 0, _ => fun c hc => by simp [cat] at hc
  | k + 1, h => by rw [cat_succ]; exact byte_append (byte_cat Z k fun r hr => h r (by omega)) (h k (by omega))

/-- What is known in world W, into which w has turned: two digests that were handed L; v reads as L; these slices read so. -/
structure St (w W : World) (gd gz : Nat) (v : Value) (L : List Int) (R : List (Option Addr × List Int)) : Prop where
  below : Below w.heap.size w W
  hd : Blk W gd 34 (bcells L)
  hz : Blk W gz 34 (bcells L)
  all : Own W (gz + 1) .u8 5 v L
  tabs : BTabs W
  rd : ∀ p ∈ R, Rd W W.heap.size .u8 p.1 p.2
section
variable {w W W' : World} {gd gz : Nat} {v : Value} {L : List Int} {R : List (Option Addr × List Int)}
theorem St.step (h : St w W gd gz v L R) (hb : Below W.heap.size W W') : St w W' gd gz v L R :=
  ⟨h.below.trans (hb.mono h.below.size), h.hd.on hb, h.hz.on hb, h.all.below hb, h.tabs.below hb, fun p hp => (h.rd p hp).on hb⟩
theorem St.add (h : St w W gd gz v L R) {A : Option Addr} {zs : List Int} (hr : Rd W W.heap.size .u8 A zs) : St w W gd gz v L ((A, zs) :: R) :=
  ⟨h.below, h.hd, h.hz, h.all, h.tabs, fun p hp => by
    rcases List.mem_cons.1 hp with rfl | hp
    · exact hr
    · exact h.rd p hp⟩
/-- Each call as the law meets it. -/
theorem onSum {g : Nat} (h : St w W gd gz v L R) (hg : g = gd ∨ g = gz) (hl : L.length ≤ 900000000) (bl : ByteL L) :
    Calls Tryd.prog 11 #[.pointer (some ⟨g, 0, none⟩)] W fun e W' => ∃ A cap, e = .returned (.slice A 32 cap) ∧ St w W' gd gz v L ((A, blakeL L) :: R) := by
  have hb : Blk W g 34 (bcells L) := by
    rcases hg with rfl | rfl
    · exact h.hd
    · exact h.hz
  refine (blake_sum W g L hl bl hb h.tabs).mono ?_
  rintro e W' ⟨A, cap, rfl, _, hr, hb'⟩
  exact ⟨A, cap, rfl, (h.step hb').add hr⟩
theorem onSumAll (h : St w W gd gz v L R) (A : Option Addr) (n cap : Nat) (hv : v = .slice A n cap) (hn : L.length = n) (hl : n ≤ 900000000) (bl : ByteL L) :
    Calls Tryd.prog 7 #[.slice A n cap] W fun e W' => ∃ A cap, e = .returned (.slice A 32 cap) ∧ St w W' gd gz v L ((A, blakeL L) :: R) := by
  obtain ⟨A', cap', hv', h1, _, _, _, h5⟩ := h.all.form
  rw [hv] at hv'
  injection hv' with e1 e2 e3
  subst e1 e3
  rw [hn] at e2 h1
  subst hn
  refine (blake_Sum W L A cap hl bl h1 h5 h.tabs).mono ?_
  rintro e W' ⟨A, cap, rfl, _, hr, hb'⟩
  exact ⟨A, cap, rfl, (h.step hb').add hr⟩
theorem onSame (h : St w W gd gz v L R) (A A' : Option Addr) (c c' : Nat) (hA : (A, blakeL L) ∈ R) (hA' : (A', blakeL L) ∈ R) :
    Calls Tryd.prog 6 #[.slice A 32 c, .slice A' 32 c'] W fun e W' => e = .returned (.bool true) ∧ W = W' :=
  same_true W _ A A' c c' 32 (blakeL L) (length_blakeL L) (h.rd _ hA) (h.rd _ hA')
theorem onLen (h : St w W gd gz v L R) (n : Nat) (hn : L.length = n) : Calls Tryd.prog 12 #[.pointer (some ⟨gd, 0, none⟩)] W fun e W' => e = .returned (.int .u64 n) ∧ W = W' := by
  subst hn
  exact blake_len W gd L h.hd
end
/-- The block of a slice of one's own that isn't empty. -/
theorem own_block' {w : World} {B : Nat} {k : IntKind} {e : TypeId} {v : Value} {zs : List Int} (h : Own w B k e v zs) (hn : 0 < zs.length) : ∃ g cap cur, v = .slice (some ⟨g, 0, none⟩) zs.length cap ∧ B ≤ g ∧ Blk w g e cur ∧ cur.size = cap ∧ zs.length ≤ cap := by
  rcases h.2 with ⟨_, hz⟩ | ⟨g, cap, cur, hv, hg, hh, hc, _, hs, _⟩
  · omega
  · exact ⟨g, cap, cur, hv, hg, hh, by omega, hc⟩

set_option maxRecDepth 100000 in
set_option maxHeartbeats 2000000 in
theorem walk (w : World) (p : Option Addr) (n cap : Nat) (A : Nat → Option Addr) (C : Nat → Nat) (Z : Nat → List Int) (hn : n ≤ 9223372036854775807) (hR : RdRows w w.heap.size .u8 p n A C Z) (hZ : ∀ r, r < n → (Z r).length ≤ 9223372036854775807 ∧ ByteL (Z r)) (T : BTabs w) :
    Calls Tryd.prog 4 #[.slice p n cap] w fun e w' => e = .returned (.bool true) ∧ Below w.heap.size w w' := by
  have HZ := zero_bdig
  have HN := Lib.hid (blake_new)
  have HA := Lib.hid (blake_awake w T)
  have HC : Hid (∀ w : World, Blk (w.alloc (.cells (bcells []) 34)) w.heap.size 34 (bcells [])) := fun w => Blk.fresh w _ _
  obtain ⟨E, hE⟩ : ∃ E, bcells [] = E := ⟨_, rfl⟩
  have HE := Lib.hid hE
  rw [hE] at HZ HN HC
  clear hE
  go_enter Tryd.func4, Tryd.ntmps4
  go_wp2_with fail
  refine HA.out.mono ?_
  rintro e w1 ⟨rfl, hb1⟩
  go_wp2_with fail
  refine (HN.out w1).mono ?_
  rintro e w2 ⟨rfl, hg2, hb2⟩
  go_wp2_with fail
  · go_ret
    exact ⟨rfl, (hb1.trans (hb2.mono hb1.size)).alloc (Nat.le_trans hb1.size hb2.size) _⟩
  · have hn60 : n ≤ 60 := by omega
    have s0 : St w (w2.alloc (.cells E 34)) w1.heap.size w2.heap.size (.slice none 0 0) (cat Z 0) [] :=
      ⟨(hb1.trans (hb2.mono hb1.size)).alloc (Nat.le_trans hb1.size hb2.size) _, by rw [show cat Z 0 = [] from rfl, HE.out]; exact hg2.alloc _, by rw [show cat Z 0 = [] from rfl, HE.out]; exact HC.out w2, Own.nil _ _ _ _, (((T.below hb1).below hb2).below (below_alloc _ _)), fun p hp => by cases hp⟩
    have hlt2 : w1.heap.size < w2.heap.size := hg2.lt
    have hge1 : w.heap.size ≤ w1.heap.size := hb1.size
    have htop := T.top
    clear hg2 hb1 hb2 HN HA HC HE HZ T
    generalize w2.alloc (.cells E 34) = w3 at *
    generalize w2.heap.size = gz at *
    generalize w1.heap.size = gd at *
    clear w1 w2
    have HZZ := Lib.hid hZ
    have HRR := Lib.hid hR
    clear hZ hR
    go_loopw [3, 6] (fun v i wr => ∃ k : Nat, k ≤ n ∧ i = .int .i64 k ∧ St w wr gd gz v (cat Z k) [] ∧ (cat Z k).length ≤ 4000) (fun _ i _ => n - (intOf i).toNat)
    case atStart => exact ⟨0, Nat.zero_le _, rfl, s0, by simp [cat]⟩
    case round =>
      obtain ⟨k, hk, rfl, hst, hlen⟩ := hrel
      clear s0
      by_cases hlt : k < n
      · obtain ⟨bp, op, rfl, hcell0⟩ := HRR.out.get hlt
        obtain ⟨hzl, hzb⟩ := HZZ.out k hlt
        have hRk := (HRR.out.below hst.below).row k hlt
        have hcell : wr.cell? ⟨bp, op + k, none⟩ = some (.slice (A k) (Z k).length (C k)) := by
          obtain ⟨b, o, hp, hc⟩ := (HRR.out.below hst.below).get hlt
          injection hp with hp
          injection hp with h1 h2
          subst h1 h2
          exact hc
        obtain ⟨Aa, ca, rfl, ha1, ha2, ha3, ha4, ha5⟩ := hst.all.form
        have hL0 := Lib.hid (cat_succ Z k)
        have bL : ByteL (cat Z k) := byte_cat Z k fun r hr => (HZZ.out r (by omega)).2
        have hAk := HRR.out.nil k hlt
        have hCk := HRR.out.cap k hlt
        generalize cat Z k = L at *
        generalize Z k = zs at *
        generalize A k = Ak at *
        generalize C k = Ck at *
        clear hcell0
        by_cases hbig1 : 2000 < zs.length
        · go_wp2_with fail
          go_ret
          exact ⟨rfl, hst.below⟩
        by_cases hbig2 : 2000 < L.length
        · go_wp2_with fail
          go_ret
          exact ⟨rfl, hst.below⟩
        have hz2 : zs.length ≤ 2000 := by omega
        have hl2 : L.length ≤ 2000 := by omega
        have htop : gz + 1 ≤ wr.heap.size := hst.hz.lt
        have hbig : wr.heap.size ≤ wr.heap.size := Nat.le_refl _
        clear hbig1 hbig2 hbig
        obtain ⟨va, wa, hra, oa, hba, hga⟩ := run_append_nums (P := Tryd.prog) (ty := 22) Tryd.underlying22 info5 (by decide) hst.all (hRk.more hst.below.size) hAk (by omega) htop
        have HRA := Lib.hid hra
        have hbw : bp < w.heap.size := by
          obtain ⟨b, o, hp, hB, _⟩ := HRR.out.top (by omega)
          injection hp with hp
          injection hp with h1 h2
          omega
        have hcella : wa.cell? ⟨bp, op + k, none⟩ = some (.slice Ak zs.length Ck) := (hba.cell (p := ⟨bp, op + k, none⟩) (show bp < gz + 1 by omega)).trans hcell
        have hda : Blk wa gd 34 (bcells L) := hst.hd.below hba (by omega)
        have hza : Blk wa gz 34 (bcells L) := hst.hz.below hba (by omega)
        have hwa : Below w.heap.size w wa := hst.below.trans (hba.mono (by omega))
        have hRa : Rd wa w.heap.size .u8 Ak zs := hRk.below (hba.mono (by omega))
        have Ta : BTabs wa := hst.tabs.low hba (by omega)
        have hsa : gz + 1 ≤ wa.heap.size := hza.lt
        have b0 : Blk (wa.alloc (.cells #[] 5)) wa.heap.size 5 (nums .u8 []) := Blk.fresh _ _ _
        have o0 : Own (wa.alloc (.cells #[] 5)) wa.heap.size .u8 5 (.slice (some ⟨wa.heap.size, 0, none⟩) 0 0) [] := Own.ofBlk b0 (Nat.le_refl _) (by decide)
        obtain ⟨vp, wp, hrp, op', hbp, _⟩ := run_append_nums (P := Tryd.prog) (ty := 22) (xs := zs) (A := Ak) (cap := Ck) Tryd.underlying22 info5 (by decide) o0 ((hRa.below ((below_alloc wa _).mono hwa.size)).more (by simp; have := hwa.size; omega)) hAk (by simp; omega) (by simp)
        have HRP := Lib.hid hrp
        have hcellb : (wa.alloc (.cells #[] 5)).cell? ⟨bp, op + k, none⟩ = some (.slice Ak zs.length Ck) := ((below_alloc wa _).cell (p := ⟨bp, op + k, none⟩) (show bp < wa.heap.size by omega)).trans hcella
        have hbp' : Below wa.heap.size wa wp := (below_alloc wa _).trans hbp
        rw [List.nil_append] at op'
        have HST := Lib.hid hst
        have OA := Lib.hid oa
        have OP := Lib.hid op'
        clear hra hrp hbp o0 b0 hga hst ha3 ha4 ha5 oa op' hRa hRk
        go_wp2_with (first | ((with_reducible refine is_append 22 rfl ?_); (with_reducible refine wpList_append_run rfl rfl HRA.out ?_ ?_ ?_); (· rfl); (· rfl)) | ((with_reducible refine is_append 22 rfl ?_); (with_reducible refine wpList_append_run rfl rfl HRP.out ?_ ?_ ?_); (· rfl); (· rfl)))
        obtain ⟨A1, c1, ev1, hc1, hm1, hn1, hx1⟩ : ∃ A1 c1, vp = .slice A1 zs.length c1 ∧ zs.length ≤ c1 ∧ c1 ≤ maxLen ∧ RdX wp gd .u8 A1 zs ∧ RdX wp gz .u8 A1 zs := by
          obtain ⟨A1, c1, h1, h2, h3, _, h5, h6⟩ := OP.out.form
          refine ⟨A1, c1, h1, h2, h3, fun hn => ?_, fun hn => ?_⟩ <;>
          · obtain ⟨b, o, hA, hb, hc⟩ := h6 hn
            obtain ⟨b', hp, hB⟩ := h5 _ hA
            injection hp with e1
            exact ⟨b, o, hA, by omega, hb, hc⟩
        subst ev1
        have hdp := hda.below hbp' hda.lt
        have hzp := hza.below hbp' hza.lt
        have Tp := Ta.below hbp'
        have HW1 := Lib.hid (blake_write wp gd L zs A1 c1 (by omega) bL hzb hc1 hdp hn1 Tp (by omega))
        clear hdp
        refine HW1.out.mono ?_
        rintro e w5 ⟨rfl, hd5, ho5⟩
        have HW2 := Lib.hid (blake_write w5 gz L zs A1 c1 (by omega) bL hzb hc1 (hzp.only ho5 (by omega)) (hx1.other hn1 ho5) (Tp.only ho5 (by omega)) (by omega))
        have hz5 := hzp.only ho5 (by omega)
        have o5 := OP.out.only ho5 (by omega)
        have k5 : ∀ i, gz + 1 ≤ i → i < wa.heap.size → w5.heap[i]? = wa.heap[i]? := fun i h1 h2 => (ho5.block i (Nat.lt_of_lt_of_le h2 hbp'.size) (fun e => by injection e with e; omega)).trans (hbp'.block i h2)
        have hs5 : wa.heap.size ≤ w5.heap.size := Nat.le_trans hbp'.size ho5.size
        have hb5 : Below w.heap.size w w5 := (hwa.trans (hbp'.mono hwa.size)).trans ((Only.below (B := gd) ho5 (Nat.le_refl _) (by have := hbp'.size; omega)).mono hge1)
        have T5 := Tp.only ho5 (by omega)
        clear hx1 hn1 HW1 HRA HRP hzp Tp OP ho5 hda hza hwa Ta hbp' hcellb hcella hba hcell
        go_wp2_with fail
        refine HW2.out.mono ?_
        rintro e w6 ⟨rfl, hz6, ho6⟩
        have hd6 := hd5.only ho6 (by omega)
        have o6 := o5.only ho6 (by omega)
        have k6 : ∀ i, gz + 1 ≤ i → i < wa.heap.size → w6.heap[i]? = wa.heap[i]? := fun i h1 h2 => (ho6.block i (by omega) (fun e => by injection e with e; omega)).trans (k5 i h1 h2)
        have T6 := T5.only ho6 (by omega)
        have hb6 : Below w.heap.size w w6 := hb5.trans ((Only.below (B := gz) ho6 (Nat.le_refl _) (by have := hz5.lt; omega)).mono (by omega))
        clear HW2 hd5 hz5 o5 k5 hs5 T5 hb5 ho6
        go_wp2_with fail
        have K6 := Lib.hid k6
        have O6 := Lib.hid o6
        clear k6 o6
        go_loopw [8] (fun i wk => ∃ j ys, j ≤ zs.length ∧ i = .int .i64 (j : Nat) ∧ ys.length = zs.length ∧ Own wk wa.heap.size .u8 5 (.slice A1 zs.length c1) ys ∧ Below wa.heap.size w6 wk) (fun i _ => zs.length - (intOf i).toNat)
        case atStart => exact ⟨0, zs, Nat.zero_le _, rfl, rfl, O6.out, Below.refl _ _⟩
        case round =>
          obtain ⟨j, ys, hj, rfl, hys, oy, hby⟩ := hrel
          by_cases hjl : j < zs.length
          · obtain ⟨gp, cp, ep, hgp, pc, pf, po, pb⟩ := oy.put (j := j) (by omega) 7
            injection ep with ep _ _
            subst ep
            have PO := Lib.hid po
            have PB := Lib.hid (hby.trans pb)
            have HYS := Lib.hid hys
            clear hby oy po pb hys
            go_wp2_with fail
            go_roundw
            case rel => exact ⟨j + 1, ys.set j 7, by omega, by go_num, by rw [List.length_set]; exact HYS.out, PO.out, PB.out⟩
            case measure => simp [intOf]; omega
          · have hbB : gz + 1 ≤ wa.heap.size := hsa
            have hd7 := hd6.below hby (by omega)
            have hz7 := hz6.below hby (by omega)
            have T7 := T6.low hby (by omega)
            have hb7 : Below w.heap.size w wr := hb6.trans (hby.mono (by omega))
            have oa7 : Own wr (gz + 1) .u8 5 va (L ++ zs) := OA.out.keep fun i h1 h2 => (hby.block i h2).trans (K6.out i h1 h2)
            have st : St w wr gd gz va (L ++ zs) [] := ⟨hb7, hd7, hz7, oa7, T7, fun p hp => by cases hp⟩
            obtain ⟨A2, c2, ev, _, _, _, _, _⟩ := oa7.form
            have hlz : (L ++ zs).length = L.length + zs.length := List.length_append
            have bLz : ByteL (L ++ zs) := byte_append bL hzb
            rw [← hL0.out] at st hlz bLz ev
            generalize hM : cat Z (k + 1) = M at *
            have HM := Lib.hid hM
            rw [hlz] at ev
            subst ev
            have hl9 : L.length + zs.length ≤ 900000000 := by omega
            have HLZ := Lib.hid hlz
            have ST := Lib.hid st
            clear hM hlz st oa7 hd7 hz7 T7 hb7 hby oy hys OA K6 O6 T6 hb6 hd6 hz6 HST
            go_wp2_with fail
            refine (onSum ST.out (Or.inl rfl) (by rw [HLZ.out]; omega) bLz).mono ?_
            rintro e w7 ⟨A3, c3, rfl, s7⟩
            go_wp2_with fail
            refine (onSumAll s7 A2 (L.length + zs.length) c2 rfl HLZ.out hl9 bLz).mono ?_
            rintro e w8 ⟨A4, c4, rfl, s8⟩
            go_wp2_with fail
            refine (onSame s8 A3 A4 c3 c4 (by simp) (by simp)).mono ?_
            rintro e w9 ⟨rfl, rfl⟩
            go_wp2_with fail
            refine (onLen s8 (L.length + zs.length) HLZ.out).mono ?_
            rintro e w9 ⟨rfl, rfl⟩
            go_wp2_with fail
            go_roundw
            case rel => exact ⟨k + 1, by omega, by go_num, by rw [HM.out]; exact ⟨s8.below, s8.hd, s8.hz, s8.all, s8.tabs, fun p hp => by cases hp⟩, by rw [HM.out, HLZ.out]; omega⟩
            case measure => simp [intOf]; omega
      · have bL : ByteL (cat Z k) := byte_cat Z k fun r hr => (HZZ.out r (by omega)).2
        have hl9 : (cat Z k).length ≤ 900000000 := by omega
        obtain ⟨A2, c2, rfl, _, _, _, _, _⟩ := hst.all.form
        generalize cat Z k = M at *
        generalize hm : M.length = m at *
        have HM := Lib.hid hm
        have ST := Lib.hid hst
        clear hst hm hlen
        go_wp2_with fail
        refine (blake_write_nil _ _).mono ?_
        rintro e w4 ⟨rfl, rfl⟩
        go_wp2_with fail
        refine (onSum ST.out (Or.inl rfl) (by rw [HM.out]; exact hl9) bL).mono ?_
        rintro e w5 ⟨A3, c3, rfl, s5⟩
        go_wp2_with fail
        refine (onSumAll s5 A2 m c2 rfl HM.out hl9 bL).mono ?_
        rintro e w6 ⟨A4, c4, rfl, s6⟩
        go_wp2_with fail
        refine (onSame s6 A3 A4 c3 c4 (by simp) (by simp)).mono ?_
        rintro e w7 ⟨rfl, rfl⟩
        go_wp2_with fail
        refine (onSum s6 (Or.inr rfl) (by rw [HM.out]; exact hl9) bL).mono ?_
        rintro e w7 ⟨A5, c5, rfl, s7⟩
        go_wp2_with fail
        refine (onSumAll s7 A2 m c2 rfl HM.out hl9 bL).mono ?_
        rintro e w8 ⟨A6, c6, rfl, s8⟩
        go_wp2_with fail
        refine (onSame s8 A5 A6 c5 c6 (by simp) (by simp)).mono ?_
        rintro e w9 ⟨rfl, rfl⟩
        go_wp2_with fail
        refine (onSum s8 (Or.inl rfl) (by rw [HM.out]; exact hl9) bL).mono ?_
        rintro e w9 ⟨A7, c7, rfl, s9⟩
        go_wp2_with fail
        refine (onSum s9 (Or.inl rfl) (by rw [HM.out]; exact hl9) bL).mono ?_
        rintro e w10 ⟨A8, c8, rfl, s10⟩
        go_wp2_with fail
        refine (onSame s10 A7 A8 c7 c8 (by simp) (by simp)).mono ?_
        rintro e w11 ⟨rfl, rfl⟩
        go_wp2_with fail
        refine (blake_sum_nil _).mono ?_
        rintro e w11 ⟨rfl, rfl⟩
        go_wp2_with fail
        refine (blake_len_nil _).mono ?_
        rintro e w11 ⟨rfl, rfl⟩
        go_wp2
        go_ret
        exact ⟨rfl, s10.below⟩

theorem cells22 : Tryd.prog.cellsOf 22 = 1 := by kernel_rfl

set_option maxRecDepth 100000 in
theorem lifted (os : Os) (started : os.Started) (H : Type) (enc : TypeId × Value → H) :
    ReturnsInHanded {} Tryd.checked os 4 .any (fun w args => (Rows.blakeChunksSpec.pre enc Tryd.prog Tryd.f4 [] false w args ∧ laidMetH Tryd.prog laid3 w) ∧ sizedMet enc Tryd.prog Tryd.f4 (OpenSpec.ofChange Rows.blakeChunksSpec) false w args)
      (Rows.blakeChunksSpec.post enc Tryd.prog Tryd.f4 false true false false) := by
  refine returnsInHanded_of_change_and (C := Tryd.checked) (X := fun w _ => laidMetH Tryd.prog laid3 w) (fun _ _ _ hh h => h.of_heap hh) own started (by kernel_rfl) Tryd.func4
    (ChangeSpec.witness_shaped (enc := enc) (C := Tryd.checked) (os := os) (X := fun w _ => laidMetH Tryd.prog laid3 w) false (World.doorLaid Tryd.prog 400 os) #[.slice none 0 0] 8 rfl (World.shaped_of_RefB (by kernel_rfl) (by kernel_rfl)) (by kernel_rfl) (by kernel_rfl) (by kernel_rfl) (door_met3 os _)) ?_
  intro W base args ds gs before hval0 hW _ _ hL _
  have hval : ∀ (j : Nat) t v, Tryd.f4.params[j]? = some t → args[j]? = some v → Value.okWide Tryd.prog W .any base t v := hval0
  have hlt := hW.lt
  have hW' := hW
  obtain ⟨p, q, hA0, hV, hpq, _, _⟩ := hW
  have hA : DataW.TrodAll enc Tryd.prog W 0 (fun _ => true) true Tryd.f4.params.toList args.toList ds p := hA0
  rw [Tryd.params4] at hA hval
  obtain ⟨v0, vs0, d0, ds0, p0, q0, hargs, rfl, rfl, h0, r0⟩ := trodAll_cons hA
  obtain ⟨rfl, rfl, rfl⟩ := trodAll_nil r0
  obtain rfl : args = #[v0] := by cases args; simp_all
  obtain ⟨rfl, rfl⟩ := trodVars_none hV
  obtain ⟨pp, n, cap, A, C, Z, rfl, hn, hR, hZ⟩ := open_rows Tryd.underlying27 Tryd.underlying22 Tryd.underlying5 cells22 cellsB8 (hval 0 27 v0 rfl rfl) h0 (fun x hx => hlt x (by rw [hpq]; simp [hx]))
  refine (walk W pp n cap A C Z hn hR (fun r hr => ⟨(hZ r hr).1, fun c hc => ?_⟩) (btabs_of_laid hL)).mono fun e W' ⟨he, hbl⟩ => ?_
  · have : 0 ≤ c ∧ c ≤ 255 := by simpa [Lit.wf, IntKind.min, IntKind.max, IntKind.bits, IntKind.signed] using (hZ r hr).2 c hc
    omega
  · subst he
    exact ⟨_, rfl, law_post laidOut (by kernel_rfl) rfl (by kernel_rfl) Tryd.underlying4 rfl rfl rfl hW' hbl⟩

theorem over : Rows.blakeChunksRow.holds Tryd.pinned (OpenSpec.ofChange Rows.blakeChunksSpec) :=
  OpenClaim.holds_of_wide 4 Tryd.f4 rfl rfl rfl rfl rfl rfl rfl ⟨rfl, rfl, rfl, rfl, rfl⟩ rfl rfl rfl rfl rfl (by kernel_rfl) Tryd.func4 (by kernel_rfl)
    (of_decide_eq_true (by kernel_rfl)) (by unfold Func.isWrapper; first | (rw [if_pos (by decide +kernel)]; kernel_rfl) | (rw [if_neg (by decide +kernel)]; exact ⟨rfl, rfl⟩))
    (fun os started H enc _ => lifted os started H enc)

/-- The statement: the tied card. -/
theorem proved : Rows.BlakeChunksCardSaid :=
  Claim7.holds_tied_plain_at .later [] [.data, .data, .data] true Rows.blakeChunksCard.stood.harness false
    over (fun _ h => by cases h) (by kernel_rfl) (fun _ h => by cases h) blakeChunks_row_tie rfl ⟨rfl, rfl⟩ (by kernel_rfl) rfl
    (fun f fn hf hfn => by
      obtain rfl : f = 4 := Option.some.inj ((show Tryd.prog.funcNamed "ullage/ullagelaw03.BlakeChunks" = some 4 by kernel_rfl).symm.trans hf) |>.symm
      obtain rfl : fn = Tryd.f4 := (Option.some.inj (Tryd.func4.symm.trans hfn)).symm
      exact ⟨by kernel_rfl, fun j t ht => by
        rw [Tryd.params4] at ht
        have hm : t ∈ [27] := by simpa using Array.mem_of_getElem? ht
        have hall : ([27].all fun u => !Tryd.prog.wantsStandIn u) = true := by kernel_rfl
        exact (show Tryd.prog.wantsStandIn t = false by simpa using List.all_eq_true.1 hall t hm)⟩)
    (by kernel_rfl)
end Go.Proofs.YtgcboodlneknpaaDoor.blakeChunks
