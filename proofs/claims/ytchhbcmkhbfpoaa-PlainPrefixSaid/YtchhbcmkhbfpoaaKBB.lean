/- The document's scan (layer 14): a text of signs that isn't whole. -/
import Derived.Test.YtchhbcmkhbfpoaaKAY
import Derived.Test.YtchhbcmkhbfpoaaKAV
import Derived.Test.YtchhbcmkhbfpoaaKBA
import Derived.OwnWalk
import Derived.Deep.RegionLaw
import Derived.Test.YtchhbcmkhbfpoaaKAP
import Derived.Test.YtchhbcmkhbfpoaaKAK
import Derived.Deep.LoopGhost
import Derived.Test.YtchhbcmkhbfpoaaKAS
namespace Go.Proofs.Ytchhbcmkhbfpoaa
open Go.RowKit

set_option maxRecDepth 100000 in
set_option maxHeartbeats 4000000 in
theorem inner_textShort (B g : Nat) (A : Option Addr) (cap : Nat) (L : List Int) (D K : Nat) (s : Int) (a dp : Nat) (w : World) (N : List Note) (E : List AEv) (h : Sn w B g A cap L D K s N E) (hB : B ≤ w.heap.size) (hb : ByteL L) (hl : L.length ≤ 300) (ha : a < L.length) (hd : dp ≤ 1000) (hn : N.length ≤ 900000) (he : E.length ≤ 900000) (hcp : L.length ≤ cap) (n : Nat) (hc : (hread (L.drop a)).e ≠ 9 ∧ (hread (L.drop a)).many ≠ 0) (hm : (hread (L.drop a)).major = 3) (hq : (n : Int) < (hread (L.drop a)).arg) (hbn : a + (hread (L.drop a)).many.toNat + n = L.length) :
    InnAt B g A cap L D K s a dp w N E ⟨hnn (hread (L.drop a)) a ++ unotes false uq0 (slice L (a + (hread (L.drop a)).many.toNat) (a + (hread (L.drop a)).many.toNat + n)) (a + (hread (L.drop a)).many.toNat), ⟨1, (hread (L.drop a)).major, (hread (L.drop a)).width, (hread (L.drop a)).arg, 0, dp, a + (hread (L.drop a)).many.toNat - 1⟩ :: bevs dp (slice L (a + (hread (L.drop a)).many.toNat) (a + (hread (L.drop a)).many.toNat + n)) (a + (hread (L.drop a)).many.toNat), a + (hread (L.drop a)).many.toNat + n, false⟩ := by
  obtain ⟨ab, ao, hA, -, -⟩ := (show Rd w B .u8 A L from let ⟨_, _, _, h⟩ := h; h.rd).get ha
  subst hA
  obtain ⟨c0, c1, c2, c3⟩ := h.cells
  have HH := Lib.hid h
  have HB := Lib.hid hB
  have i1 : (a : Int) < L.length := by omega
  have i2 : (dp : Int) ≤ 1000 := by omega
  have i3 : (L.length : Int) ≤ 300 := by omega
  have i4 : (0 : Int) ≤ dp := by omega
  have i5 : (0 : Int) ≤ a := by omega
  have HRD := Lib.hid (ref_head h hB hb hl a (by omega))
  have hmn := hread_many (L.drop a)
  rw [List.length_drop] at hmn
  have hpl : (hread (L.drop a)).e ≠ 0 → (if (hread (L.drop a)).place < 0 then -1 else (hread (L.drop a)).place + (a : Int)) = ((a + (hread (L.drop a)).place.toNat : Nat) : Int) := fun h0 => by
    have := hread_placed h0
    rw [if_neg (by omega)]
    omega
  have hmj := hread_major (L.drop a) (fun c hc => hb c (List.mem_of_mem_drop hc))
  have hag := hread_arg (L.drop a)
  unfold hreadV at HRD
  generalize hread (L.drop a) = r at *
  obtain ⟨m, W, q, z, p, er⟩ := r
  dsimp only at HRD hmn hpl hmj hag hc hm hq hbn ⊢
  generalize (if p < 0 then -1 else p + (a : Int)) = pl at *
  have i6 : (a : Int) + z ≤ L.length := by omega
  have i7 : (0 : Int) ≤ z := hmn.1
  have hlN : N.length ≤ 1000000000 := by omega
  have HN := Lib.hid hlN
  have HBY := Lib.hid (fun _ : Unit => And.intro hb hcp)
  have HN9 := Lib.hid (fun _ : Unit => hn)
  clear h hB hb hl ha hd hmn hlN hn hcp
  obtain ⟨hc1, hc2⟩ := hc
  have hnn0 : er = 0 → hnn ⟨m, W, q, z, p, er⟩ a = [] := fun h => if_pos h
  have hnn1 : er ≠ 0 → hnn ⟨m, W, q, z, p, er⟩ a = [(a + p.toNat, er)] := fun h => if_neg h
  have hln : (hnn ⟨m, W, q, z, p, er⟩ a).length ≤ 1 := by unfold hnn; split <;> simp
  generalize hnn ⟨m, W, q, z, p, er⟩ a = nn at *
  generalize a + p.toNat = pn at *
  have hab : (a : Int) + z = ((a + z.toNat : Nat) : Int) := by omega
  have hb1' : ((a + z.toNat - 1 : Nat) : Int) = ((a + z.toNat : Nat) : Int) - 1 := by omega
  have i8 : (a : Int) < ((a + z.toNat : Nat) : Int) := by omega
  have i9 : ((a + z.toNat : Nat) : Int) ≤ L.length := by omega
  have hz : z ≠ 0 := hc2
  have HB1' := Lib.hid hb1'
  have HLN := Lib.hid (fun _ : Unit => And.intro hln (And.intro HN.out he))
  have HNN := Lib.hid (And.intro hnn0 (And.intro hnn1 hpl))
  generalize a + z.toNat - 1 = b1 at *
  generalize a + z.toNat = b at *
  have h9 : (er == 9) = false := by simp [hc1]
  clear hb1' hln hnn0 hnn1 hpl he hc2
  subst hm
  unfold InnAt ScP
  dsimp only
  have hbi : (b : Int) + n ≤ L.length := by omega
  have hlb : (L.length : Int) - b = n := by omega
  have hqn : decide (q ≤ (n : Int)) = false := decide_eq_false (by omega)
  have HBN := Lib.hid (fun _ : Unit => hbn)
  have hn3 : (n : Int) ≤ 300 := by omega
  have hwn : IntKind.u64.wrap (n : Int) = n := IntWalk.u64_in _ (by omega)
  clear hbn hmj
  go_enter Try.func35, Try.ntmps35
  go_wp2_with fail
  refine HRD.out.mono ?_
  rintro e1 w1 ⟨rfl, hb1⟩
  have HS1 := Lib.hid (HH.out.on hb1 HB.out)
  have HB1 := Lib.hid (Nat.le_trans HB.out hb1.size)
  have HW1 := Lib.hid (hb1.mono HB.out)
  have HBW := Lib.hid HB.out
  clear hb1 HRD HB HH c0 c1 c2 c3
  go_upto_if 51 with fail
  refine wp_cut_mask kInn (fun _ W => Sn W B g (some ⟨ab, ao, none⟩) cap L D K s (N ++ nn) E ∧ Below B w W) ?_ ?_
  · intro K' HK'
    by_cases her : er = 0
    · have e3 := HNN.out.1 her
      subst her
      subst e3
      clear HNN
      go_wp2_with fail
      refine HK'.out _ _ rfl ⟨?_, HW1.out⟩
      rw [List.append_nil]
      exact HS1.out
    · have hpl := HNN.out.2.2 her
      have e3 := HNN.out.2.1 her
      subst hpl
      subst e3
      clear HNN
      go_wp2_with fail
      refine (ref_note w1 B g (some ⟨ab, ao, none⟩) cap L D K s N E pn er HS1.out HB1.out HN.out).mono ?_
      rintro e2 w2 ⟨rfl, hs2, hw2⟩
      have HS2 := Lib.hid hs2
      have HW2 := Lib.hid (HW1.out.trans hw2)
      clear hs2 hw2 HS1 HW1
      go_wp2_with fail
      exact HK'.out _ _ rfl ⟨HS2.out, HW2.out⟩
  intro t w3 hR
  obtain ⟨hs3, hw3⟩ := hR
  dsimp only [mask, kInn, Nat.reduceAdd]
  have hB3 := Nat.le_trans HBW.out hw3.size
  obtain ⟨v0, v1, v2, v3⟩ := hs3.cells
  obtain ⟨vA, vE, vV, hV⟩ := hs3
  have u6 : w3.cell? ⟨g, 6, none⟩ = some vV := hV.cells.2.2.2.2.2.2.1
  obtain ⟨A', n', c', w4, hr, h6, h7, hs4, hw4⟩ := ev_add hV hB3 (by have := HLN.out (); omega) ⟨1, 3, W, q, 0, dp, b1⟩
  have e2 : (AEv.cells ⟨1, 3, W, q, 0, dp, b1⟩).toArray = #[.int .i64 1, .int .i64 3, .int .i64 W, .int .i64 (dp : Int), .int .i64 ((b : Int) - 1), .int .u64 q, .int .u8 0] := by simp [AEv.cells, HB1'.out]
  rw [e2] at hr
  clear e2
  have HR := Lib.hid hr
  have HS4 := Lib.hid hs4
  have HW4 := Lib.hid (hw3.trans hw4)
  clear hr hs4 hw4 hV hw3 hB3 HS1 HW1 HB1 HNN
  have HZ := ev_zero
  unfold ev0 at HZ
  go_upto_region 15 with ((with_reducible refine is_append 44 rfl ?_); (with_reducible refine wpList_append_run rfl rfl HR.out ?_ ?_ ?_); (· rfl); (· rfl))
  generalize w4.setCell ⟨g, 6, none⟩ (.slice A' n' c') = w5 at *
  clear HR h6 h7 HZ v0 v1 v2 v3 u6
  obtain ⟨c0, -, -, -⟩ := HS4.out.cells
  go_wp2_with fail
  have hE0 := HLN.out ()
  have HSN := Lib.hid (fun _ : Unit => (hE0.2.2 : E.length ≤ 900000))
  clear hE0
  refine wp_loop_mask kText (fun m t W' => ∃ i : Nat, m + i = b + n ∧ t 16 = .int .i64 (i : Int) ∧ TextI w W' B g (some ⟨ab, ao, none⟩) cap L D K s (N ++ nn) (E ++ [⟨1, 3, W, q, 0, dp, b1⟩]) dp b i) n ⟨b, Nat.add_comm _ _, rfl, Nat.le_refl _, by rw [slice_nil]; show Sn _ _ _ _ _ _ _ _ _ _ (_ ++ []); rw [List.append_nil]; exact HS4.out, Nat.le_trans HBW.out HW4.out.size, HW4.out⟩ ?_
  intro m t6 wr hrel K6 HK6
  dsimp only [mask, kText, Nat.reduceAdd]
  obtain ⟨i, hmi, e16, hT⟩ := hrel
  rw [e16]
  clear e16 HS4 HW4
  cases m with
  | zero =>
    obtain rfl : i = b + n := by omega
    have hlt : ¬ ((b + n : Nat) : Int) < (b : Int) + n := by omega
    have hbn2 := HBN.out ()
    obtain ⟨hby, hcp⟩ := HBY.out ()
    obtain ⟨vA', vE', vV', hV⟩ := hT.sn
    obtain ⟨hp1, hp2⟩ := run_part hV.rd cap b (b + n) hcp (Nat.le_add_right _ _) (by omega)
    obtain ⟨k0, -⟩ := hV.cells
    have HSS := Lib.hid hT.sn
    have HBB := Lib.hid hT.hb
    have HBE := Lib.hid hT.bel
    have hbys : ByteL (slice L b (b + n)) := fun c hc => hby c (List.mem_of_mem_drop (List.mem_of_mem_take hc))
    have hsl : (slice L b (b + n)).length = n := by rw [length_slice (by omega)]; omega
    have hss : (strOfNums (slice L b (b + n))).size ≤ 1000000000 := by rw [← length_sbytes, sbytes_str hbys, hsl]; have := hn3; omega
    have hF := ref_First (strOfNums (slice L b (b + n))) hss wr
    rw [sbytes_str hbys] at hF
    have hun := unotes_uat false (slice L b (b + n)) uq0 b 0 rfl
    have hemp : uok uq0 (slice L b (b + n)) = false → slice L b (b + n) ≠ [] := fun h e => by rw [e] at h; cases h
    rw [Int.natCast_add] at hp1
    rw [hsl] at hun hp1 hp2
    have HNB : Hid (∀ _ : Unit, (N ++ nn).length ≤ 1000000000) := fun _ => by have := HLN.out (); rw [List.length_append]; have h9 := HN9.out (); omega
    clear hT hV hmi hbn2 hby hcp hbys hss hsl
    generalize strOfNums (slice L b (b + n)) = S at hp2 hF
    generalize uat uq0 (slice L b (b + n)) 0 = u at hF hun
    generalize uok uq0 (slice L b (b + n)) = ok at hF hun hemp
    obtain ⟨UN, hUE⟩ : ∃ UN, unotes false uq0 (slice L b (b + n)) b = UN := ⟨_, rfl⟩
    rw [hUE] at hun
    have HUE := Lib.hid hUE
    clear hUE
    have HF := Lib.hid hF
    have HEM := Lib.hid hemp
    clear hF hemp
    rcases hun with ⟨p, rfl, hp, rfl⟩ | ⟨rfl, hUN⟩
    · have hp0 : (0 : Int) ≤ ((0 + p : Nat) : Int) := by omega
      have hp3 : ((0 + p : Nat) : Int) ≤ 300 := by omega
      have hbp : (b : Int) + ((0 + p : Nat) : Int) = ((b + p : Nat) : Int) := by omega
      generalize b + p = bp at *
      generalize ((0 + p : Nat) : Int) = u at *
      clear hp HEM
      go_wp2_with fail
      refine HF.out.mono ?_
      rintro e7 w7 ⟨rfl, rfl⟩
      go_wp2_with fail
      refine (ref_note _ B g (some ⟨ab, ao, none⟩) cap L D K s (N ++ nn) _ bp 6 HSS.out HBB.out (HNB.out ())).mono ?_
      rintro e8 w8 ⟨rfl, hs8, hw8⟩
      have HS8 := Lib.hid hs8
      have HW8 := Lib.hid (HBE.out.trans hw8)
      clear hs8 hw8
      go_wp2_with fail
      refine bodyPost_ret (results_tmp2 rfl _ _ _) rfl ?_
      exact ⟨rfl, by rw [HUE.out]; simpa using HS8.out, HW8.out⟩
    · cases ok with
      | true =>
        have hUN2 : UN = [] := by rw [hUN]; exact if_neg (by simp)
        subst hUN2
        clear hUN HEM
        go_wp2_with fail
        refine HF.out.mono ?_
        rintro e7 w7 ⟨rfl, rfl⟩
        go_wp2_with fail
        refine bodyPost_ret (results_tmp2 rfl _ _ _) rfl ?_
        exact ⟨rfl, by rw [HUE.out]; simpa using HSS.out, HBE.out⟩
      | false =>
        have hUN2 : UN = [] := by rw [hUN]; exact if_neg (by simp)
        subst hUN2
        clear hUN HEM
        go_wp2_with fail
        refine HF.out.mono ?_
        rintro e7 w7 ⟨rfl, rfl⟩
        go_wp2_with fail
        refine bodyPost_ret (results_tmp2 rfl _ _ _) rfl ?_
        exact ⟨rfl, by rw [HUE.out]; simpa using HSS.out, HBE.out⟩
  | succ m =>
    have hlt : (i : Int) < (b : Int) + n := by omega
    have hbn2 := HBN.out ()
    have hil : i < L.length := by omega
    have hii : (i : Int) < L.length := by omega
    have hi0 : (0 : Int) ≤ i := by omega
    have hwi : IntKind.i64.wrap ((i : Int) + 1) = (i : Int) + 1 := IntWalk.i64_in _ (by omega)
    obtain ⟨vA', vE', vV', hV⟩ := hT.sn
    have hbW : Below wr.heap.size wr (wr.alloc (.cells #[.int .i64 2, .int .i64 0, .int .i64 0, .int .i64 (dp : Int), .int .i64 (i : Int), .int .u64 0, .int .u8 (L.getD i 0)] 48)).drew := below_drawn (below_alloc _ _)
    have hV2 := hV.on hbW hT.hb
    have hgo := ev_addB hV2 (Nat.le_trans hT.hb hbW.size) (by have := HSN.out (); rw [List.length_append, List.length_append, List.length_singleton, length_bevs, length_slice (by omega)]; omega) ⟨2, 0, 0, 0, L.getD i 0, dp, i⟩ wr.heap.size (Blk.fresh wr 48 (AEv.cells ⟨2, 0, 0, 0, L.getD i 0, dp, i⟩).toArray).drew
    rw [List.append_assoc, ← bevs_step hT.lo hil] at hgo
    have hbW2 := hbW.mono hT.hb
    have hV1 := hV.on (below_alloc wr (.cells #[.int .i64 2, .int .i64 0, .int .i64 0, .int .i64 (dp : Int), .int .i64 (i : Int), .int .u64 0, .int .u8 (L.getD i 0)] 48)) hT.hb
    obtain ⟨ab', ao', he1, -, hcb⟩ := hV.rd.get hil
    injection he1 with he1
    injection he1 with he1 he2
    subst he1
    subst he2
    obtain ⟨ab', ao', he1, -, hcb1⟩ := hV1.rd.get hil
    injection he1 with he1
    injection he1 with he1 he2
    subst he1
    subst he2
    obtain ⟨k0, -, -, -, -, -, k6, -⟩ := hV.cells
    obtain ⟨j0, -, -, -, -, -, j6, -⟩ := hV1.cells
    obtain ⟨ab', ao', he1, -, hcb2⟩ := hV2.rd.get hil
    injection he1 with he1
    injection he1 with he1 he2
    subst he1
    subst he2
    obtain ⟨l0, -, -, -, -, -, l6, -⟩ := hV2.cells
    obtain ⟨A9, n9, c9, w9, hr9, h69, h79, hs9, hw9⟩ := hgo
    have HN9 : Hid (TextI w (w9.setCell ⟨g, 6, none⟩ (.slice A9 n9 c9)) B g (some ⟨ab, ao, none⟩) cap L D K s (N ++ nn) (E ++ [⟨1, 3, W, q, 0, dp, b1⟩]) dp b (i + 1)) := ⟨Nat.le_succ_of_le hT.lo, hs9, Nat.le_trans (Nat.le_trans hT.hb hbW2.size) hw9.size, (hT.bel.trans hbW2).trans hw9⟩
    have HR := Lib.hid hr9
    have HMI := Lib.hid (fun _ : Unit => hmi)
    have HZ := ev_zero
    unfold ev0 at HZ
    clear hr9 hs9 hw9 hT hV hV1 hV2 hbW hbW2 hmi hil hbn2
    generalize L.getD i 0 = x at *
    go_wp2_with fail
    go_region_law (refine step_append_run rfl rfl HR.out rfl rfl ?_)
    go_wp2_with fail
    all_goals exact HK6.out _ _ m (Nat.lt_succ_self m) rfl ⟨i + 1, by have := HMI.out (); omega, rfl, HN9.out⟩
end Go.Proofs.Ytchhbcmkhbfpoaa

/- The document's scan (layer 14), plain: pairs in a row. -/
namespace Go.Proofs.Ytchhbcmkhbfpoaa

def pnote (fst : Bool) (last now : List Int) (to : Nat) : List Note := if !fst && !ahead last now then [(to - 1, 7)] else []
theorem length_pnote (fst : Bool) (last now : List Int) (to : Nat) : (pnote fst last now to).length ≤ 1 := by unfold pnote; split <;> simp
/-- Pairs in a row: where the scan stands. -/
structure PairI (L : List Int) (ik iv : Nat → Sc) (lim n : Nat) (fst : Bool) (last : List Int) (N : List Note) (E : List AEv) (a : Nat) (R : Sc) : Prop where
  lo : lim ≤ a
  hi : a ≤ L.length
  nb : N.length + 6 * (L.length - a) ≤ 890000
  eb : E.length + 6 * (L.length - a) ≤ 890000
  notes : N ++ (scPairs L ik iv n fst last a).notes = R.notes
  evs : E ++ (scPairs L ik iv n fst last a).evs = R.evs
  to : (scPairs L ik iv n fst last a).to = R.to
  ok : (scPairs L ik iv n fst last a).ok = R.ok
section
variable {L : List Int} {ik iv : Nat → Sc} {lim n : Nat} {fst : Bool} {last : List Int} {N : List Note} {E : List AEv} {a : Nat} {R : Sc}
theorem PairI.none (h : PairI L ik iv lim 0 fst last N E a R) : N = R.notes ∧ E = R.evs ∧ a = R.to ∧ R.ok = true := by
  have h1 := h.notes; have h2 := h.evs; have h3 := h.to; have h4 := h.ok
  unfold scPairs at h1 h2 h3 h4
  exact ⟨by simpa using h1, by simpa using h2, h3, h4.symm⟩
theorem PairI.stopK (h : PairI L ik iv lim (n + 1) fst last N E a R) (ho : (ik a).ok = false) : N ++ (ik a).notes = R.notes ∧ E ++ (ik a).evs = R.evs ∧ (ik a).to = R.to ∧ R.ok = false := by
  have h1 := h.notes; have h2 := h.evs; have h3 := h.to; have h4 := h.ok
  have e : scPairs L ik iv (n + 1) fst last a = ik a := by unfold scPairs scPair; dsimp only; rw [if_neg (by rw [ho]; decide)]
  rw [e] at h1 h2 h3 h4
  exact ⟨h1, h2, h3, by rw [← h4, ho]⟩
/-- Behind the key: the bounds that the value's item asks for. -/
theorem PairI.mid (h : PairI L ik iv lim (n + 1) fst last N E a R) (hb : BdI L a (ik a)) (ho : (ik a).ok = true) :
    lim ≤ (ik a).to ∧ (ik a).to ≤ L.length ∧ a < (ik a).to ∧ ((N ++ (ik a).notes) ++ pnote fst last (slice L a (ik a).to) (ik a).to).length + 6 * (L.length - (ik a).to) ≤ 890000 ∧ (E ++ (ik a).evs).length + 6 * (L.length - (ik a).to) ≤ 890000 := by
  have l1 := h.lo; have l2 := h.hi; have l3 := h.nb; have l4 := h.eb
  obtain ⟨b1, b2, b3⟩ := hb.one ho
  have b4 := hb.hi
  have b5 := length_pnote fst last (slice L a (ik a).to) (ik a).to
  refine ⟨by omega, b4, b1, ?_, ?_⟩
  · rw [List.length_append, List.length_append]; omega
  · rw [List.length_append]; omega
theorem PairI.stopV (h : PairI L ik iv lim (n + 1) fst last N E a R) (ho : (ik a).ok = true) (hv : (iv (ik a).to).ok = false) :
    ((N ++ (ik a).notes) ++ pnote fst last (slice L a (ik a).to) (ik a).to) ++ (iv (ik a).to).notes = R.notes ∧ (E ++ (ik a).evs) ++ (iv (ik a).to).evs = R.evs ∧ (iv (ik a).to).to = R.to ∧ R.ok = false := by
  have h1 := h.notes; have h2 := h.evs; have h3 := h.to; have h4 := h.ok
  have e : scPairs L ik iv (n + 1) fst last a = ⟨(ik a).notes ++ (pnote fst last (slice L a (ik a).to) (ik a).to ++ (iv (ik a).to).notes), (ik a).evs ++ (iv (ik a).to).evs, (iv (ik a).to).to, false⟩ := by
    unfold scPairs scPair pnote; dsimp only; rw [if_pos ho, if_neg (by rw [hv]; decide)]
  rw [e] at h1 h2 h3 h4
  exact ⟨by rw [← h1]; simp [List.append_assoc], by rw [← h2]; simp [List.append_assoc], h3, h4.symm⟩
theorem PairI.next (h : PairI L ik iv lim (n + 1) fst last N E a R) (hb : BdI L a (ik a)) (ho : (ik a).ok = true) (hbv : BdI L (ik a).to (iv (ik a).to)) (hv : (iv (ik a).to).ok = true) :
    PairI L ik iv lim n false (slice L a (ik a).to) (((N ++ (ik a).notes) ++ pnote fst last (slice L a (ik a).to) (ik a).to) ++ (iv (ik a).to).notes) ((E ++ (ik a).evs) ++ (iv (ik a).to).evs) (iv (ik a).to).to R := by
  obtain ⟨m1, m2, m3, m4, m5⟩ := h.mid hb ho
  have h1 := h.notes; have h2 := h.evs; have h3 := h.to; have h4 := h.ok
  have e : scPairs L ik iv (n + 1) fst last a = ⟨(ik a).notes ++ (pnote fst last (slice L a (ik a).to) (ik a).to ++ ((iv (ik a).to).notes ++ (scPairs L ik iv n false (slice L a (ik a).to) (iv (ik a).to).to).notes)), (ik a).evs ++ ((iv (ik a).to).evs ++ (scPairs L ik iv n false (slice L a (ik a).to) (iv (ik a).to).to).evs), (scPairs L ik iv n false (slice L a (ik a).to) (iv (ik a).to).to).to, (scPairs L ik iv n false (slice L a (ik a).to) (iv (ik a).to).to).ok⟩ := by
    show scPair L ik iv (scPairs L ik iv n false) fst last a = _
    unfold scPair pnote; dsimp only; rw [if_pos ho, if_pos hv]
  rw [e] at h1 h2 h3 h4
  obtain ⟨b1, b2, b3⟩ := hbv.one hv
  have b4 := hbv.hi
  refine ⟨by omega, b4, ?_, ?_, by rw [← h1]; simp [List.append_assoc], by rw [← h2]; simp [List.append_assoc], h3, h4⟩
  · rw [List.length_append]; omega
  · rw [List.length_append]; omega
end
end Go.Proofs.Ytchhbcmkhbfpoaa

/- The document's keys: which of two texts is ahead, New, Byte, End. -/
namespace Go.Proofs.Ytchhbcmkhbfpoaa
open Go.RowKit

theorem drop_at (l : List Int) (k : Nat) (h : k < l.length) : l.drop k = l.getD k 0 :: l.drop (k + 1) := by
  rw [List.drop_eq_getElem_cons h]
  simp [List.getD_eq_getElem?_getD, h]
theorem seq_step {s t : List Int} {k : Nat} (h1 : k < s.length) (h2 : k < t.length) :
    seqC intC (s.drop k) (t.drop k) = if s.getD k 0 = t.getD k 0 then seqC intC (s.drop (k + 1)) (t.drop (k + 1)) else intC (s.getD k 0) (t.getD k 0) := by
  rw [drop_at s k h1, drop_at t k h2]
  show (if intC _ _ ≠ 0 then _ else _) = _
  by_cases e : s.getD k 0 = t.getD k 0
  · rw [if_pos e, if_neg (by simpa using intC_zero.2 e)]
  · rw [if_neg e, if_pos (fun h => e (intC_zero.1 h))]
theorem intC_neg {x y : Int} : intC x y < 0 ↔ x < y := by
  unfold intC
  by_cases h : x < y
  · simp [h]
  · by_cases h' : y < x <;> simp [h, h']
theorem ahead_step {s t : List Int} {k : Nat} (h1 : k < s.length) (h2 : k < t.length) :
    ahead (s.drop k) (t.drop k) = if s.getD k 0 = t.getD k 0 then ahead (s.drop (k + 1)) (t.drop (k + 1)) else decide (s.getD k 0 < t.getD k 0) := by
  unfold ahead
  rw [seq_step h1 h2]
  by_cases e : s.getD k 0 = t.getD k 0
  · rw [if_pos e, if_pos e]
  · rw [if_neg e, if_neg e]
    exact decide_eq_decide.2 intC_neg
theorem ahead_end {s t : List Int} {k : Nat} (h1 : k ≤ s.length) (h2 : k ≤ t.length) (h : k = s.length ∨ k = t.length) : ahead (s.drop k) (t.drop k) = decide (s.length < t.length) := by
  unfold ahead
  rcases h with h | h
  · rw [h, List.drop_length]
    by_cases e : s.length < t.length
    · rw [drop_at t _ e]
      simp [seqC, e]
    · rw [List.drop_eq_nil_of_le (by omega)]
      simp [seqC, e]
  · rw [h, List.drop_length]
    rw [decide_eq_false (show ¬ s.length < t.length by omega)]
    by_cases e : t.length < s.length
    · rw [drop_at s _ e]
      simp [seqC]
    · rw [List.drop_eq_nil_of_le (by omega)]
      simp [seqC]

set_option maxRecDepth 100000 in
theorem ref_Less (s t : ByteArray) (hs : s.size ≤ 1000000000) (_ht : t.size ≤ 1000000000) (w : World) :
    Calls Try.prog 47 #[.string s, .string t] w fun e w' => e = .returned (.bool (ahead (sbytes s) (sbytes t))) ∧ ∃ n, w' = w.drewN n := by
  have LS := Lib.hid (length_sbytes s)
  have LT := Lib.hid (length_sbytes t)
  have HS := fun (w : World) (k : Nat) (hk : k < s.size) (x : Int) (hx : x = k) => run_sb (P := Try.prog) Try.underlying9 w s k hk x hx
  have HT := fun (w : World) (k : Nat) (hk : k < t.size) (x : Int) (hx : x = k) => run_sb (P := Try.prog) Try.underlying9 w t k hk x hx
  have ES : Hid (∀ k, sb s k = (sbytes s).getD k 0) := fun _ => rfl
  have ET : Hid (∀ k, sb t k = (sbytes t).getD k 0) := fun _ => rfl
  generalize sbytes s = S at *
  generalize sbytes t = T at *
  go_enter Try.func47, Try.ntmps47
  go_wp2_with fail
  go_loopw [5] (fun i wr => ∃ k : Nat, k ≤ s.size ∧ k ≤ t.size ∧ i = .int .i64 k ∧ Hid (ahead S T = ahead (S.drop k) (T.drop k)) ∧ ∃ n, wr = w.drewN n) (fun i _ => s.size - (intOf i).toNat)
  case atStart => exact ⟨0, Nat.zero_le _, Nat.zero_le _, rfl, rfl, 0, rfl⟩
  case round =>
    obtain ⟨k, k1, k2, rfl, hk, n, rfl⟩ := hrel
    by_cases h1 : k < s.size
    · by_cases h2 : k < t.size
      · have X1 := fun w => HS w k h1 k rfl
        have X2 := fun w => HT w k h2 k rfl
        simp only [ES.out] at X1
        simp only [ET.out] at X2
        have HE := Lib.hid (ahead_step (s := S) (t := T) (k := k) (by rw [LS.out]; exact h1) (by rw [LT.out]; exact h2))
        clear HS HT
        generalize S.getD k 0 = x at *
        generalize T.getD k 0 = y at *
        by_cases e : x = y
        · subst e
          go_wp2_with fail
          go_quiet (fail)
          go_wp2_with fail
          go_roundw
          case rel => exact ⟨k + 1, by omega, by omega, by go_num, hk.out.trans (HE.out.trans (if_pos trivial)), n + nq, rfl⟩
          case measure => simp [intOf]; omega
        · go_wp2_with fail
          go_quiet (fail)
          go_wp2_with fail
          go_quiet (fail)
          go_wp2_with fail
          go_ret
          exact ⟨by rw [hk.out, HE.out, if_neg e]; rfl, _, by simp only [World.drewN_drewN]; rfl⟩
      · have HE := Lib.hid (ahead_end (s := S) (t := T) (k := k) (by rw [LS.out]; exact k1) (by rw [LT.out]; exact k2) (.inr (by rw [LT.out]; omega)))
        clear HS HT
        go_wp2_with fail
        go_ret
        exact ⟨by rw [hk.out, HE.out, LS.out, LT.out]; simp, _, rfl⟩
    · have HE := Lib.hid (ahead_end (s := S) (t := T) (k := k) (by rw [LS.out]; exact k1) (by rw [LT.out]; exact k2) (.inl (by rw [LS.out]; omega)))
      clear HS HT
      go_wp2_with fail
      go_ret
      exact ⟨by rw [hk.out, HE.out, LS.out, LT.out]; simp, _, rfl⟩

end Go.Proofs.Ytchhbcmkhbfpoaa

/- The document's scan (layer 14): pairs. -/
namespace Go.Proofs.Ytchhbcmkhbfpoaa
open Go.RowKit

def kPairs : List Bool := [false, true, false, false, false, false, false, false, false, false, false, false, false, false, false, false, false, false, false, false, false, true, true, true, true, true, false, false, false, false, false, false, false, false, false, false, false, false, false, false, false, false, false, false, false, false, false, false, false, false, false, false, false, false, false, false, false, false, false, false, false, false, false, false, false, false, false, false, false, false, false, false, false, false, false, false, false, false, false, false, false, false, false, false, false, false, false, false, false, false, false, false, false, false, false, false, false, false, false, false, false, false, false, false, false, false, false, false, false, false, false, false, false, false, false, false, false, false, false, false, false, false, false, false, false, false, false, false, false, false, false, false, false, false, false, false, false, false, false, false, false, false, false, false, false, false, false, false, false, false, false, false, false, false, false, false, false, false, false, false, false, false, false, false, false, false, false, false, false, false, false, false, false, false, false, false, false, false, false, false, false, false, false, false, true, true, true, true, true, true, true, true, true, true, true, true, true, true, true, true, true, true, true, true, true, true, true, true, true, true, true, true, true, true, true, true, true, true, true, true, true, true, true, true, true, true, true, true, true, true, true, true]
set_option maxRecDepth 100000 in
set_option maxHeartbeats 4000000 in
theorem inner_map (B g : Nat) (A : Option Addr) (cap : Nat) (L : List Int) (D K : Nat) (s : Int) (a dp : Nat) (w : World) (N : List Note) (E : List AEv) (h : Sn w B g A cap L D K s N E) (hB : B ≤ w.heap.size) (hb : ByteL L) (hl : L.length ≤ 300) (ha : a < L.length) (hd : dp ≤ 1000) (hn : N.length ≤ 900000) (hn6 : N.length + 6 * (L.length - a) ≤ 890001) (he6 : E.length + 6 * (L.length - a) ≤ 890001) (he : E.length ≤ 900000) (item : Nat → Nat → Bool → Sc) (hcp : L.length ≤ cap) (hik : ItemC B g A cap L D K s item (a + 1) dp true) (hiv : ItemC B g A cap L D K s item (a + 1) dp false) (ik iv : Nat → Sc) (heq : ik = (fun a => item a (dp + 1) true) ∧ iv = fun a => item a (dp + 1) false) (hbd : ∀ x, a + 1 ≤ x → x ≤ L.length → BdI L x (ik x) ∧ BdI L x (iv x)) (hc : (hread (L.drop a)).e ≠ 9 ∧ (hread (L.drop a)).many ≠ 0) (hm : (hread (L.drop a)).major = 5) :
    InnAt B g A cap L D K s a dp w N E ⟨hnn (hread (L.drop a)) a ++ (scPairs L ik iv (hread (L.drop a)).arg.toNat true [] (a + (hread (L.drop a)).many.toNat)).notes, ⟨1, (hread (L.drop a)).major, (hread (L.drop a)).width, (hread (L.drop a)).arg, 0, dp, a + (hread (L.drop a)).many.toNat - 1⟩ :: (scPairs L ik iv (hread (L.drop a)).arg.toNat true [] (a + (hread (L.drop a)).many.toNat)).evs, (scPairs L ik iv (hread (L.drop a)).arg.toNat true [] (a + (hread (L.drop a)).many.toNat)).to, (scPairs L ik iv (hread (L.drop a)).arg.toNat true [] (a + (hread (L.drop a)).many.toNat)).ok⟩ := by
  obtain ⟨c0, c1, c2, c3⟩ := h.cells
  have HH := Lib.hid h
  have HB := Lib.hid hB
  have i1 : (a : Int) < L.length := by omega
  have i2 : (dp : Int) ≤ 1000 := by omega
  have i3 : (L.length : Int) ≤ 300 := by omega
  have i4 : (0 : Int) ≤ dp := by omega
  have i5 : (0 : Int) ≤ a := by omega
  have HRD := Lib.hid (ref_head h hB hb hl a (by omega))
  have hmn := hread_many (L.drop a)
  rw [List.length_drop] at hmn
  have hpl : (hread (L.drop a)).e ≠ 0 → (if (hread (L.drop a)).place < 0 then -1 else (hread (L.drop a)).place + (a : Int)) = ((a + (hread (L.drop a)).place.toNat : Nat) : Int) := fun h0 => by
    have := hread_placed h0
    rw [if_neg (by omega)]
    omega
  have hmj := hread_major (L.drop a) (fun c hc => hb c (List.mem_of_mem_drop hc))
  have hag := hread_arg (L.drop a)
  have hqlt := hread_arg_lt (L.drop a)
  unfold hreadV at HRD
  generalize hread (L.drop a) = r at *
  obtain ⟨m, W, q, z, p, er⟩ := r
  dsimp only at HRD hmn hpl hmj hag hc hm hqlt hbd hn6 he6 ⊢
  generalize (if p < 0 then -1 else p + (a : Int)) = pl at *
  have i6 : (a : Int) + z ≤ L.length := by omega
  have i7 : (0 : Int) ≤ z := hmn.1
  have hlN : N.length ≤ 1000000000 := by omega
  have HN := Lib.hid hlN
  have HBY := Lib.hid (fun _ : Unit => And.intro hb hcp)
  clear h hB hb hl ha hd hmn hlN hn hcp
  obtain ⟨hc1, hc2⟩ := hc
  have hnn0 : er = 0 → hnn ⟨m, W, q, z, p, er⟩ a = [] := fun h => if_pos h
  have hnn1 : er ≠ 0 → hnn ⟨m, W, q, z, p, er⟩ a = [(a + p.toNat, er)] := fun h => if_neg h
  have hln : (hnn ⟨m, W, q, z, p, er⟩ a).length ≤ 1 := by unfold hnn; split <;> simp
  generalize hnn ⟨m, W, q, z, p, er⟩ a = nn at *
  generalize a + p.toNat = pn at *
  have hab : (a : Int) + z = ((a + z.toNat : Nat) : Int) := by omega
  have hb1' : ((a + z.toNat - 1 : Nat) : Int) = ((a + z.toNat : Nat) : Int) - 1 := by omega
  have i8 : (a : Int) < ((a + z.toNat : Nat) : Int) := by omega
  have i9 : ((a + z.toNat : Nat) : Int) ≤ L.length := by omega
  have hz : z ≠ 0 := hc2
  have HB1' := Lib.hid hb1'
  have HLN := Lib.hid (fun _ : Unit => And.intro hln (And.intro HN.out he))
  have HM0 := Lib.hid (fun _ : Unit => And.intro hn6 he6)
  clear hn6 he6
  have HBD := Lib.hid hbd
  have HIK := Lib.hid hik
  have HIV := Lib.hid hiv
  have HEQ := Lib.hid heq
  clear hbd hik hiv heq
  have HNN := Lib.hid (And.intro hnn0 (And.intro hnn1 hpl))
  generalize a + z.toNat - 1 = b1 at *
  generalize a + z.toNat = b at *
  have h9 : (er == 9) = false := by simp [hc1]
  clear hb1' hln hnn0 hnn1 hpl he hc2
  subst hm
  unfold InnAt ScP
  dsimp only
  have hlb : a + 1 ≤ b := by omega
  have hbl : b ≤ L.length := by omega
  have HLB := Lib.hid (fun _ : Unit => And.intro hlb hbl)
  clear hlb hbl
  obtain ⟨R, hR⟩ : ∃ R : Sc, R = ⟨(N ++ nn) ++ (scPairs L ik iv q.toNat true [] b).notes, (E ++ [⟨1, 5, W, q, 0, dp, b1⟩]) ++ (scPairs L ik iv q.toNat true [] b).evs, (scPairs L ik iv q.toNat true [] b).to, (scPairs L ik iv q.toNat true [] b).ok⟩ := ⟨_, rfl⟩
  have HRR := Lib.hid hR
  have hRP : ∀ (e : Ending) (w' : World), (e = .returned (.tuple #[.int .i64 (R.to : Int), .bool R.ok]) ∧ Sn w' B g A cap L D K s R.notes R.evs ∧ Below B w w') → (e = .returned (.tuple #[.int .i64 ((scPairs L ik iv q.toNat true [] b).to : Int), .bool (scPairs L ik iv q.toNat true [] b).ok]) ∧ Sn w' B g A cap L D K s (N ++ (nn ++ (scPairs L ik iv q.toNat true [] b).notes)) (E ++ ⟨1, 5, W, q, 0, dp, b1⟩ :: (scPairs L ik iv q.toNat true [] b).evs) ∧ Below B w w') := fun e w' h => by
    subst hR
    simpa [List.append_assoc] using h
  refine Calls.mono (?_ : Calls _ _ _ _ fun e w' => e = .returned (.tuple #[.int .i64 (R.to : Int), .bool R.ok]) ∧ Sn w' B g A cap L D K s R.notes R.evs ∧ Below B w w') hRP
  clear hR hRP
  go_enter Try.func35, Try.ntmps35
  go_wp2_with fail
  refine HRD.out.mono ?_
  rintro e1 w1 ⟨rfl, hb1⟩
  have HS1 := Lib.hid (HH.out.on hb1 HB.out)
  have HB1 := Lib.hid (Nat.le_trans HB.out hb1.size)
  have HW1 := Lib.hid (hb1.mono HB.out)
  have HBW := Lib.hid HB.out
  clear hb1 HRD HB HH c0 c1 c2 c3
  go_upto_if 51 with fail
  refine wp_cut_mask kInn (fun _ W => Sn W B g A cap L D K s (N ++ nn) E ∧ Below B w W) ?_ ?_
  · intro K' HK'
    by_cases her : er = 0
    · have e3 := HNN.out.1 her
      subst her
      subst e3
      clear HNN
      go_wp2_with fail
      refine HK'.out _ _ rfl ⟨?_, HW1.out⟩
      rw [List.append_nil]
      exact HS1.out
    · have hpl := HNN.out.2.2 her
      have e3 := HNN.out.2.1 her
      subst hpl
      subst e3
      clear HNN
      go_wp2_with fail
      refine (ref_note w1 B g A cap L D K s N E pn er HS1.out HB1.out HN.out).mono ?_
      rintro e2 w2 ⟨rfl, hs2, hw2⟩
      have HS2 := Lib.hid hs2
      have HW2 := Lib.hid (HW1.out.trans hw2)
      clear hs2 hw2 HS1 HW1
      go_wp2_with fail
      exact HK'.out _ _ rfl ⟨HS2.out, HW2.out⟩
  intro t w3 hR
  obtain ⟨hs3, hw3⟩ := hR
  dsimp only [mask, kInn, Nat.reduceAdd]
  have hB3 := Nat.le_trans HBW.out hw3.size
  obtain ⟨v0, v1, v2, v3⟩ := hs3.cells
  obtain ⟨vA, vE, vV, hV⟩ := hs3
  have u6 : w3.cell? ⟨g, 6, none⟩ = some vV := hV.cells.2.2.2.2.2.2.1
  obtain ⟨A', n', c', w4, hr, h6, h7, hs4, hw4⟩ := ev_add hV hB3 (by have := HLN.out (); omega) ⟨1, 5, W, q, 0, dp, b1⟩
  have e2 : (AEv.cells ⟨1, 5, W, q, 0, dp, b1⟩).toArray = #[.int .i64 1, .int .i64 5, .int .i64 W, .int .i64 (dp : Int), .int .i64 ((b : Int) - 1), .int .u64 q, .int .u8 0] := by simp [AEv.cells, HB1'.out]
  rw [e2] at hr
  clear e2
  have HR := Lib.hid hr
  have HS4 := Lib.hid hs4
  have HW4 := Lib.hid (hw3.trans hw4)
  clear hr hs4 hw4 hV hw3 hB3 HS1 HW1 HB1 HNN
  have HZ := ev_zero
  unfold ev0 at HZ
  go_wp2_with ((with_reducible refine is_append 44 rfl ?_); (with_reducible refine wpList_append_run rfl rfl HR.out ?_ ?_ ?_); (· rfl); (· rfl))
  have hmi : PairI L ik iv (a + 1) q.toNat true [] (N ++ nn) (E ++ [⟨1, 5, W, q, 0, dp, b1⟩]) b R := by
    have h1 := HM0.out ()
    have h2 := HLN.out ()
    have h3 := HLB.out ()
    have h4 := HRR.out
    exact ⟨h3.1, h3.2, by rw [List.length_append]; omega, by rw [List.length_append, List.length_singleton]; omega, by rw [h4], by rw [h4], by rw [h4], by rw [h4]⟩
  refine wp_loop_mask kPairs (fun n t W' => ∃ (i a' : Nat) (last : List Int) (N' : List Note) (E' : List AEv), n + i = q.toNat ∧ t 23 = .int .u64 (i : Int) ∧ t 1 = .int .i64 (a' : Int) ∧ t 21 = .string (strOfNums last) ∧ ByteL last ∧ last.length ≤ 300 ∧ PairI L ik iv (a + 1) n (decide (i = 0)) last N' E' a' R ∧ Sn W' B g A cap L D K s N' E' ∧ B ≤ W'.heap.size ∧ Below B w W') (q.toNat) ⟨0, b, [], N ++ nn, E ++ [⟨1, 5, W, q, 0, dp, b1⟩], Nat.add_zero _, rfl, rfl, rfl, (fun c hc => by cases hc), Nat.zero_le _, (by rw [show decide ((0 : Nat) = 0) = true from rfl]; exact hmi), HS4.out, Nat.le_trans HBW.out HW4.out.size, HW4.out⟩ ?_
  intro n t5 wr hrel K5 HK5
  dsimp only [mask, kPairs, Nat.reduceAdd]
  obtain ⟨i, a', last, N', E', hni, e23, e1, e21, hlb, hll, hmi, hs, hB, hw⟩ := hrel
  rw [e23, e1, e21]
  clear e23 e1 e21
  cases n with
  | zero =>
    have hlt : ¬ (i : Int) < q := by omega
    have HS := Lib.hid hs
    have HW := Lib.hid hw
    obtain ⟨g1, g2, g3, g4⟩ := hmi.none
    have HG := Lib.hid (And.intro g1 (And.intro g2 (And.intro g3 g4)))
    clear hmi hs hB hw hni g1 g2 g3 g4 hlb hll
    go_wp2_with fail
    refine bodyPost_ret (results_tmp2 rfl _ _ _) rfl ?_
    obtain ⟨g1, g2, g3, g4⟩ := HG.out
    exact ⟨by rw [g3, g4]; rfl, by rw [← g1, ← g2]; exact HS.out, HW.out⟩
  | succ n =>
    have hlt : (i : Int) < q := by omega
    have hwr : IntKind.u64.wrap ((i : Int) + 1) = (i : Int) + 1 := IntWalk.u64_in _ (by omega)
    have HNI := Lib.hid (fun _ : Unit => hni)
    have HS := Lib.hid hs
    have HW := Lib.hid hw
    have HMI := Lib.hid hmi
    have HLL := Lib.hid (fun _ : Unit => And.intro hlb hll)
    have hi6 := HIK.out a' wr N' E' hmi.lo hmi.hi hs hB hmi.nb hmi.eb
    unfold ScP at hi6
    have eit : ik a' = item a' (dp + 1) true := by rw [HEQ.out.1]
    rw [← eit] at hi6
    clear eit
    have HI6 := Lib.hid hi6
    have HBI := Lib.hid (HBD.out a' hmi.lo hmi.hi).1
    have HBR := Lib.hid hB
    clear hi6 hmi hs hB hw hlb hll hni
    go_wp2_with fail
    refine HI6.out.mono ?_
    rintro e6 w6 ⟨rfl, hs6, hw6⟩
    have HS6 := Lib.hid hs6
    have HW6 := Lib.hid hw6
    clear hs6 hw6
    cases ho : (ik a').ok with
    | false =>
      have HO := Lib.hid ho
      clear ho
      go_wp2_with fail
      refine bodyPost_ret (results_tmp2 rfl _ _ _) rfl ?_
      obtain ⟨g1, g2, g3, g4⟩ := HMI.out.stopK HO.out
      exact ⟨by rw [← g3, g4]; rfl, by rw [← g1, ← g2]; exact HS6.out, HW.out.trans HW6.out⟩
    | true =>
      have HO := Lib.hid ho
      clear ho
      obtain ⟨m1, m2, m3, m4, m5⟩ := HMI.out.mid HBI.out HO.out
      have HM := Lib.hid (fun _ : Unit => And.intro m1 (And.intro m2 (And.intro m3 (And.intro m4 m5))))
      have y1 : (a' : Int) < ((ik a').to : Int) := by omega
      have y2 : ((ik a').to : Int) ≤ L.length := by omega
      have y3 : (0 : Int) ≤ a' := by omega
      obtain ⟨vA', vE', vV', hV⟩ := HS6.out
      obtain ⟨hp1, hp2⟩ := run_part hV.rd cap a' (ik a').to (HBY.out ()).2 (Nat.le_of_lt m3) m2
      obtain ⟨k0, -⟩ := hV.cells
      have hsl : (slice L a' (ik a').to).length = (ik a').to - a' := length_slice m2
      have hnb : ByteL (slice L a' (ik a').to) := fun c hc => (HBY.out ()).1 c (List.mem_of_mem_drop (List.mem_of_mem_take hc))
      have hnl : (slice L a' (ik a').to).length ≤ 300 := by omega
      clear hV m4 m5
      obtain ⟨S2, hS2⟩ : ∃ S2, strOfNums (slice L a' (ik a').to) = S2 := ⟨_, rfl⟩
      rw [hsl] at hp1 hp2
      rw [hS2] at hp2
      have hlb := (HLL.out ()).1
      have hll := (HLL.out ()).2
      have hls := ref_Less (strOfNums last) S2 (by rw [← length_sbytes, sbytes_str hlb]; omega) (by rw [← hS2, ← length_sbytes, sbytes_str hnb]; omega) w6
      rw [← hS2, sbytes_str hlb, sbytes_str hnb, hS2] at hls
      have HS2 := Lib.hid hS2
      have HNB := Lib.hid (fun _ : Unit => And.intro hnb hnl)
      clear hsl hnb hnl hS2 hlb hll m1 m2 m3
      by_cases hi : i = 0
      · clear hls
        have hpn : pnote (decide (i = 0)) last (slice L a' (ik a').to) (ik a').to = [] := by unfold pnote; rw [show decide (i = 0) = true from decide_eq_true hi]; rfl
        have z0 : ¬ (0 : Int) < (i : Int) := by omega
        clear hi
        obtain ⟨w7, rfl⟩ : ∃ w7, w7 = w6 := ⟨_, rfl⟩
        have HS7 : Hid (Sn w7 B g A cap L D K s ((N' ++ (ik a').notes) ++ pnote (decide (i = 0)) last (slice L a' (ik a').to) (ik a').to) (E' ++ (ik a').evs)) := by rw [hpn, List.append_nil]; exact HS6.out
        have HB7 := Lib.hid (Nat.le_trans HBR.out HW6.out.size)
        have HW7 := Lib.hid (HW.out.trans HW6.out)
        clear hpn
        have hi8 := HIV.out (ik a').to w7 _ _ (HM.out ()).1 (HM.out ()).2.1 HS7.out HB7.out (HM.out ()).2.2.2.1 (HM.out ()).2.2.2.2
        unfold ScP at hi8
        have eiv : iv (ik a').to = item (ik a').to (dp + 1) false := by rw [HEQ.out.2]
        rw [← eiv] at hi8
        clear eiv
        have HI8 := Lib.hid hi8
        clear hi8
        go_wp2_with fail
        refine HI8.out.mono ?_
        rintro e8 w8 ⟨rfl, hs8, hw8⟩
        have HS8 := Lib.hid hs8
        have HW8 := Lib.hid (HW7.out.trans hw8)
        have HB8 := Lib.hid (Nat.le_trans HB7.out hw8.size)
        clear hs8 hw8
        cases hv : (iv (ik a').to).ok with
        | false =>
          have HV := Lib.hid hv
          clear hv
          go_wp2_with fail
          refine bodyPost_ret (results_tmp2 rfl _ _ _) rfl ?_
          obtain ⟨g1, g2, g3, g4⟩ := HMI.out.stopV HO.out HV.out
          exact ⟨by rw [← g3, g4]; rfl, by rw [← g1, ← g2]; exact HS8.out, HW8.out⟩
        | true =>
          have HV := Lib.hid hv
          clear hv
          go_wp2_with fail
          have hnx := HMI.out.next HBI.out HO.out (HBD.out _ (HM.out ()).1 (HM.out ()).2.1).2 HV.out
          exact HK5.out _ _ n (Nat.lt_succ_self n) rfl ⟨i + 1, (iv (ik a').to).to, slice L a' (ik a').to, _, _, by have := HNI.out (); omega, rfl, rfl, by rw [HS2.out]; rfl, (HNB.out ()).1, (HNB.out ()).2, (by rw [show decide (i + 1 = 0) = false from decide_eq_false (Nat.succ_ne_zero i)]; exact hnx), HS8.out, HB8.out, HW8.out⟩
      · cases hah : ahead last (slice L a' (ik a').to) with
        | true =>
          have hpn : pnote (decide (i = 0)) last (slice L a' (ik a').to) (ik a').to = [] := by unfold pnote; rw [hah]; simp
          rw [hah] at hls
          have HLS := Lib.hid hls
          have HPN := Lib.hid hpn
          clear hls hpn hah
          have z0 : (0 : Int) < (i : Int) := by omega
          clear hi
          go_wp2_with fail
          refine HLS.out.mono ?_
          rintro e7 w7 ⟨rfl, nd, hnd⟩
          have hbd7 : Below w6.heap.size w6 w7 := by rw [hnd]; exact below_drawnN (Below.refl _ _) _
          have HBD7 := Lib.hid hbd7
          clear hnd hbd7
          have HSX := Lib.hid (HS6.out.on HBD7.out (Nat.le_trans HBR.out HW6.out.size))
          have HBX := Lib.hid (Nat.le_trans (Nat.le_trans HBR.out HW6.out.size) HBD7.out.size)
          have HWX := Lib.hid ((HW.out.trans HW6.out).trans (HBD7.out.mono (Nat.le_trans HBR.out HW6.out.size)))
          have HS7 : Hid (Sn w7 B g A cap L D K s ((N' ++ (ik a').notes) ++ pnote (decide (i = 0)) last (slice L a' (ik a').to) (ik a').to) (E' ++ (ik a').evs)) := by rw [HPN.out, List.append_nil]; exact HSX.out
          have HB7 := HBX
          have HW7 := HWX
          have hi8 := HIV.out (ik a').to w7 _ _ (HM.out ()).1 (HM.out ()).2.1 HS7.out HB7.out (HM.out ()).2.2.2.1 (HM.out ()).2.2.2.2
          unfold ScP at hi8
          have eiv : iv (ik a').to = item (ik a').to (dp + 1) false := by rw [HEQ.out.2]
          rw [← eiv] at hi8
          clear eiv
          have HI8 := Lib.hid hi8
          clear hi8
          go_wp2_with fail
          refine HI8.out.mono ?_
          rintro e8 w8 ⟨rfl, hs8, hw8⟩
          have HS8 := Lib.hid hs8
          have HW8 := Lib.hid (HW7.out.trans hw8)
          have HB8 := Lib.hid (Nat.le_trans HB7.out hw8.size)
          clear hs8 hw8
          cases hv : (iv (ik a').to).ok with
          | false =>
            have HV := Lib.hid hv
            clear hv
            go_wp2_with fail
            refine bodyPost_ret (results_tmp2 rfl _ _ _) rfl ?_
            obtain ⟨g1, g2, g3, g4⟩ := HMI.out.stopV HO.out HV.out
            exact ⟨by rw [← g3, g4]; rfl, by rw [← g1, ← g2]; exact HS8.out, HW8.out⟩
          | true =>
            have HV := Lib.hid hv
            clear hv
            go_wp2_with fail
            have hnx := HMI.out.next HBI.out HO.out (HBD.out _ (HM.out ()).1 (HM.out ()).2.1).2 HV.out
            exact HK5.out _ _ n (Nat.lt_succ_self n) rfl ⟨i + 1, (iv (ik a').to).to, slice L a' (ik a').to, _, _, by have := HNI.out (); omega, rfl, rfl, by rw [HS2.out]; rfl, (HNB.out ()).1, (HNB.out ()).2, (by rw [show decide (i + 1 = 0) = false from decide_eq_false (Nat.succ_ne_zero i)]; exact hnx), HS8.out, HB8.out, HW8.out⟩
        | false =>
          have hpn : pnote (decide (i = 0)) last (slice L a' (ik a').to) (ik a').to = [((ik a').to - 1, 7)] := by unfold pnote; rw [hah, show decide (i = 0) = false from decide_eq_false (by omega)]; rfl
          have hp7 : ((ik a').to : Int) - 1 = (((ik a').to - 1 : Nat) : Int) := by omega
          rw [hah] at hls
          have HLS := Lib.hid hls
          have HPN := Lib.hid hpn
          clear hls hpn hah
          have z0 : (0 : Int) < (i : Int) := by omega
          clear hi
          go_wp2_with fail
          refine HLS.out.mono ?_
          rintro e7 w7 ⟨rfl, nd, hnd⟩
          have hbd7 : Below w6.heap.size w6 w7 := by rw [hnd]; exact below_drawnN (Below.refl _ _) _
          have HBD7 := Lib.hid hbd7
          clear hnd hbd7
          have HSX := Lib.hid (HS6.out.on HBD7.out (Nat.le_trans HBR.out HW6.out.size))
          have HBX := Lib.hid (Nat.le_trans (Nat.le_trans HBR.out HW6.out.size) HBD7.out.size)
          have HWX := Lib.hid ((HW.out.trans HW6.out).trans (HBD7.out.mono (Nat.le_trans HBR.out HW6.out.size)))
          go_wp2_with fail
          refine (ref_note w7 B g A cap L D K s (N' ++ (ik a').notes) (E' ++ (ik a').evs) ((ik a').to - 1) 7 HSX.out HBX.out (by have := (HM.out ()).2.2.2.1; rw [List.length_append] at this; omega)).mono ?_
          rintro e9 w9 ⟨rfl, hs9, hw9⟩
          have HB9 := Lib.hid (Nat.le_trans HBX.out hw9.size)
          have HW9 := Lib.hid (HWX.out.trans hw9)
          have HS9 := Lib.hid hs9
          clear hs9 hw9 HSX HBX HWX HBD7
          obtain ⟨w7', rfl⟩ : ∃ w7', w7' = w9 := ⟨_, rfl⟩
          have HS7 : Hid (Sn w7' B g A cap L D K s ((N' ++ (ik a').notes) ++ pnote (decide (i = 0)) last (slice L a' (ik a').to) (ik a').to) (E' ++ (ik a').evs)) := by rw [HPN.out]; exact HS9.out
          have HB7 := HB9
          have HW7 := HW9
          have hi8 := HIV.out (ik a').to w7' _ _ (HM.out ()).1 (HM.out ()).2.1 HS7.out HB7.out (HM.out ()).2.2.2.1 (HM.out ()).2.2.2.2
          unfold ScP at hi8
          have eiv : iv (ik a').to = item (ik a').to (dp + 1) false := by rw [HEQ.out.2]
          rw [← eiv] at hi8
          clear eiv
          have HI8 := Lib.hid hi8
          clear hi8
          go_wp2_with fail
          refine HI8.out.mono ?_
          rintro e8 w8 ⟨rfl, hs8, hw8⟩
          have HS8 := Lib.hid hs8
          have HW8 := Lib.hid (HW7.out.trans hw8)
          have HB8 := Lib.hid (Nat.le_trans HB7.out hw8.size)
          clear hs8 hw8
          cases hv : (iv (ik a').to).ok with
          | false =>
            have HV := Lib.hid hv
            clear hv
            go_wp2_with fail
            refine bodyPost_ret (results_tmp2 rfl _ _ _) rfl ?_
            obtain ⟨g1, g2, g3, g4⟩ := HMI.out.stopV HO.out HV.out
            exact ⟨by rw [← g3, g4]; rfl, by rw [← g1, ← g2]; exact HS8.out, HW8.out⟩
          | true =>
            have HV := Lib.hid hv
            clear hv
            go_wp2_with fail
            have hnx := HMI.out.next HBI.out HO.out (HBD.out _ (HM.out ()).1 (HM.out ()).2.1).2 HV.out
            exact HK5.out _ _ n (Nat.lt_succ_self n) rfl ⟨i + 1, (iv (ik a').to).to, slice L a' (ik a').to, _, _, by have := HNI.out (); omega, rfl, rfl, by rw [HS2.out]; rfl, (HNB.out ()).1, (HNB.out ()).2, (by rw [show decide (i + 1 = 0) = false from decide_eq_false (Nat.succ_ne_zero i)]; exact hnx), HS8.out, HB8.out, HW8.out⟩
end Go.Proofs.Ytchhbcmkhbfpoaa
