/- The document's scan (layer 14): items in a row. -/
import Derived.Test.YtchhbcmkhbfpoaaKBG
import Derived.OwnWalk
namespace Go.Proofs.Ytchhbcmkhbfpoaa
open Go.RowKit

def kMany : List Bool := [false, true, false, false, false, false, false, false, false, false, false, false, false, false, false, false, false, false, false, true, true, false, false, false, false, false, false, false, false, false, false, false, false, false, false, false, false, false, false, false, false, false, false, false, false, false, false, false, false, false, false, false, false, false, false, false, false, false, false, false, false, false, false, false, false, false, false, false, false, false, false, false, false, false, false, false, false, false, false, false, false, false, false, false, false, false, false, false, false, false, false, false, false, false, false, false, false, false, false, false, false, false, false, false, false, false, false, false, false, false, false, false, false, false, false, false, false, false, false, false, false, false, false, false, false, false, false, false, false, false, false, false, false, false, false, false, false, false, false, false, false, false, false, false, false, false, false, false, false, false, false, false, false, false, false, false, false, false, false, false, false, false, false, false, false, false, true, true, true, true, true, true, true, true, true, true, true, true, true, true, true]
theorem hread_arg_lt (L : List Int) : (hread L).arg < 18446744073709551616 := by
  unfold hread
  have hb : ∀ W, harg L W < 18446744073709551616 := fun W => (big_range 18446744073709551616 (pad (L.drop 1) W.toNat) (by decide)).2
  repeat' split
  all_goals first
    | exact hb _
    | (show (0 : Int) < 18446744073709551616; decide)
    | (show L.getD 0 0 % 32 < 18446744073709551616; omega)
/-- Item's contract at all places from lim on, one level deeper. -/
def ItemC (B g : Nat) (A : Option Addr) (cap : Nat) (L : List Int) (D K : Nat) (s : Int) (item : Nat → Nat → Bool → Sc) (lim dp : Nat) (key : Bool) : Prop :=
  ∀ (a : Nat) (w : World) (N : List Note) (E : List AEv), lim ≤ a → a ≤ L.length → Sn w B g A cap L D K s N E → B ≤ w.heap.size → N.length + 6 * (L.length - a) ≤ 890000 → E.length + 6 * (L.length - a) ≤ 890000 →
    Calls Try.prog 24 #[.pointer (some ⟨g, 0, none⟩), .int .i64 (a : Int), .int .i64 ((dp : Int) + 1), .bool key] w fun e w' => ScP B g A cap L D K s N E (item a (dp + 1) key) w e w'
/-- Items in a row: where the scan stands. -/
structure ManyI (L : List Int) (it : Nat → Sc) (lim n : Nat) (N : List Note) (E : List AEv) (a : Nat) (R : Sc) : Prop where
  lo : lim ≤ a
  hi : a ≤ L.length
  nb : N.length + 6 * (L.length - a) ≤ 890000
  eb : E.length + 6 * (L.length - a) ≤ 890000
  notes : N ++ (scMany it n a).notes = R.notes
  evs : E ++ (scMany it n a).evs = R.evs
  to : (scMany it n a).to = R.to
  ok : (scMany it n a).ok = R.ok
theorem ManyI.none {L : List Int} {it : Nat → Sc} {lim : Nat} {N : List Note} {E : List AEv} {a : Nat} {R : Sc} (h : ManyI L it lim 0 N E a R) : N = R.notes ∧ E = R.evs ∧ a = R.to ∧ R.ok = true := by
  have h1 := h.notes; have h2 := h.evs; have h3 := h.to; have h4 := h.ok
  unfold scMany at h1 h2 h3 h4
  exact ⟨by simpa using h1, by simpa using h2, h3, h4.symm⟩
theorem ManyI.stop {L : List Int} {it : Nat → Sc} {lim n : Nat} {N : List Note} {E : List AEv} {a : Nat} {R : Sc} (h : ManyI L it lim (n + 1) N E a R) (ho : (it a).ok = false) : N ++ (it a).notes = R.notes ∧ E ++ (it a).evs = R.evs ∧ (it a).to = R.to ∧ R.ok = false := by
  have h1 := h.notes; have h2 := h.evs; have h3 := h.to; have h4 := h.ok
  unfold scMany at h1 h2 h3 h4
  rw [if_neg (by rw [ho]; decide)] at h1 h2 h3 h4
  exact ⟨h1, h2, h3, by rw [← h4, ho]⟩
theorem ManyI.next {L : List Int} {it : Nat → Sc} {lim n : Nat} {N : List Note} {E : List AEv} {a : Nat} {R : Sc} (h : ManyI L it lim (n + 1) N E a R) (hb : BdI L a (it a)) (ho : (it a).ok = true) : ManyI L it lim n (N ++ (it a).notes) (E ++ (it a).evs) (it a).to R := by
  have h1 := h.notes; have h2 := h.evs; have h3 := h.to; have h4 := h.ok
  have l1 := h.lo; have l2 := h.hi; have l3 := h.nb; have l4 := h.eb
  unfold scMany at h1 h2 h3 h4
  rw [if_pos ho] at h1 h2 h3 h4
  obtain ⟨b1, b2, b3⟩ := hb.one ho
  have b4 := hb.hi
  exact ⟨by omega, b4, by rw [List.length_append]; omega, by rw [List.length_append]; omega, by rw [List.append_assoc]; exact h1, by rw [List.append_assoc]; exact h2, h3, h4⟩
set_option maxRecDepth 100000 in
set_option maxHeartbeats 4000000 in
theorem inner_list (B g : Nat) (A : Option Addr) (cap : Nat) (L : List Int) (D K : Nat) (s : Int) (a dp : Nat) (w : World) (N : List Note) (E : List AEv) (h : Sn w B g A cap L D K s N E) (hB : B ≤ w.heap.size) (hb : ByteL L) (hl : L.length ≤ 300) (ha : a < L.length) (hd : dp ≤ 1000) (hn : N.length ≤ 900000) (hn6 : N.length + 6 * (L.length - a) ≤ 890001) (he6 : E.length + 6 * (L.length - a) ≤ 890001) (he : E.length ≤ 900000) (item : Nat → Nat → Bool → Sc) (hit : ItemC B g A cap L D K s item (a + 1) dp false) (it : Nat → Sc) (heq : it = fun a => item a (dp + 1) false) (hbd : ∀ x, a + 1 ≤ x → x ≤ L.length → BdI L x (it x)) (hc : (hread (L.drop a)).e ≠ 9 ∧ (hread (L.drop a)).many ≠ 0) (hm : (hread (L.drop a)).major = 4) :
    InnAt B g A cap L D K s a dp w N E ⟨hnn (hread (L.drop a)) a ++ (scMany it (hread (L.drop a)).arg.toNat (a + (hread (L.drop a)).many.toNat)).notes, ⟨1, (hread (L.drop a)).major, (hread (L.drop a)).width, (hread (L.drop a)).arg, 0, dp, a + (hread (L.drop a)).many.toNat - 1⟩ :: (scMany it (hread (L.drop a)).arg.toNat (a + (hread (L.drop a)).many.toNat)).evs, (scMany it (hread (L.drop a)).arg.toNat (a + (hread (L.drop a)).many.toNat)).to, (scMany it (hread (L.drop a)).arg.toNat (a + (hread (L.drop a)).many.toNat)).ok⟩ := by
  obtain ⟨c0, c1, c2, c3⟩ := h.cells
  have HH := Lib.hid h
  have HB := Lib.hid hB
  have i1 : (a : Int) < L.length := by omega
  have i2 : (dp : Int) ≤ 1000 := by omega
  have i3 : (L.length : Int) ≤ 300 := by omega
  have i4 : (0 : Int) ≤ dp := by omega
  have i5 : (0 : Int) ≤ a := by omega
  have HRD := Lib.hid (ref_head h hB hb hl a (by omega))
  have hmn := hread_many (L.drop a)
  rw [List.length_drop] at hmn
  have hpl : (hread (L.drop a)).e ≠ 0 → (if (hread (L.drop a)).place < 0 then -1 else (hread (L.drop a)).place + (a : Int)) = ((a + (hread (L.drop a)).place.toNat : Nat) : Int) := fun h0 => by
    have := hread_placed h0
    rw [if_neg (by omega)]
    omega
  have hmj := hread_major (L.drop a) (fun c hc => hb c (List.mem_of_mem_drop hc))
  have hag := hread_arg (L.drop a)
  have hqlt := hread_arg_lt (L.drop a)
  unfold hreadV at HRD
  generalize hread (L.drop a) = r at *
  obtain ⟨m, W, q, z, p, er⟩ := r
  dsimp only at HRD hmn hpl hmj hag hc hm hqlt hbd hn6 he6 ⊢
  generalize (if p < 0 then -1 else p + (a : Int)) = pl at *
  have i6 : (a : Int) + z ≤ L.length := by omega
  have i7 : (0 : Int) ≤ z := hmn.1
  have hlN : N.length ≤ 1000000000 := by omega
  have HN := Lib.hid hlN
  clear h hB hb hl ha hd hmn hlN hn
  obtain ⟨hc1, hc2⟩ := hc
  have hnn0 : er = 0 → hnn ⟨m, W, q, z, p, er⟩ a = [] := fun h => if_pos h
  have hnn1 : er ≠ 0 → hnn ⟨m, W, q, z, p, er⟩ a = [(a + p.toNat, er)] := fun h => if_neg h
  have hln : (hnn ⟨m, W, q, z, p, er⟩ a).length ≤ 1 := by unfold hnn; split <;> simp
  generalize hnn ⟨m, W, q, z, p, er⟩ a = nn at *
  generalize a + p.toNat = pn at *
  have hab : (a : Int) + z = ((a + z.toNat : Nat) : Int) := by omega
  have hb1' : ((a + z.toNat - 1 : Nat) : Int) = ((a + z.toNat : Nat) : Int) - 1 := by omega
  have i8 : (a : Int) < ((a + z.toNat : Nat) : Int) := by omega
  have i9 : ((a + z.toNat : Nat) : Int) ≤ L.length := by omega
  have hz : z ≠ 0 := hc2
  have HB1' := Lib.hid hb1'
  have HLN := Lib.hid (fun _ : Unit => And.intro hln (And.intro HN.out he))
  have HM0 := Lib.hid (fun _ : Unit => And.intro hn6 he6)
  clear hn6 he6
  have HBD := Lib.hid hbd
  have HI := Lib.hid hit
  have HEQ := Lib.hid heq
  clear hbd hit heq
  have HNN := Lib.hid (And.intro hnn0 (And.intro hnn1 hpl))
  generalize a + z.toNat - 1 = b1 at *
  generalize a + z.toNat = b at *
  have h9 : (er == 9) = false := by simp [hc1]
  clear hb1' hln hnn0 hnn1 hpl he hc2
  subst hm
  unfold InnAt ScP
  dsimp only
  have hlb : a + 1 ≤ b := by omega
  have hbl : b ≤ L.length := by omega
  have HLB := Lib.hid (fun _ : Unit => And.intro hlb hbl)
  clear hlb hbl
  obtain ⟨R, hR⟩ : ∃ R : Sc, R = ⟨(N ++ nn) ++ (scMany it q.toNat b).notes, (E ++ [⟨1, 4, W, q, 0, dp, b1⟩]) ++ (scMany it q.toNat b).evs, (scMany it q.toNat b).to, (scMany it q.toNat b).ok⟩ := ⟨_, rfl⟩
  have HRR := Lib.hid hR
  have hRP : ∀ (e : Ending) (w' : World), (e = .returned (.tuple #[.int .i64 (R.to : Int), .bool R.ok]) ∧ Sn w' B g A cap L D K s R.notes R.evs ∧ Below B w w') → (e = .returned (.tuple #[.int .i64 ((scMany it q.toNat b).to : Int), .bool (scMany it q.toNat b).ok]) ∧ Sn w' B g A cap L D K s (N ++ (nn ++ (scMany it q.toNat b).notes)) (E ++ ⟨1, 4, W, q, 0, dp, b1⟩ :: (scMany it q.toNat b).evs) ∧ Below B w w') := fun e w' h => by
    subst hR
    simpa [List.append_assoc] using h
  refine Calls.mono (?_ : Calls _ _ _ _ fun e w' => e = .returned (.tuple #[.int .i64 (R.to : Int), .bool R.ok]) ∧ Sn w' B g A cap L D K s R.notes R.evs ∧ Below B w w') hRP
  clear hR hRP
  go_enter Try.func35, Try.ntmps35
  go_wp2_with fail
  refine HRD.out.mono ?_
  rintro e1 w1 ⟨rfl, hb1⟩
  have HS1 := Lib.hid (HH.out.on hb1 HB.out)
  have HB1 := Lib.hid (Nat.le_trans HB.out hb1.size)
  have HW1 := Lib.hid (hb1.mono HB.out)
  have HBW := Lib.hid HB.out
  clear hb1 HRD HB HH c0 c1 c2 c3
  go_upto_if 51 with fail
  refine wp_cut_mask kInn (fun _ W => Sn W B g A cap L D K s (N ++ nn) E ∧ Below B w W) ?_ ?_
  · intro K' HK'
    by_cases her : er = 0
    · have e3 := HNN.out.1 her
      subst her
      subst e3
      clear HNN
      go_wp2_with fail
      refine HK'.out _ _ rfl ⟨?_, HW1.out⟩
      rw [List.append_nil]
      exact HS1.out
    · have hpl := HNN.out.2.2 her
      have e3 := HNN.out.2.1 her
      subst hpl
      subst e3
      clear HNN
      go_wp2_with fail
      refine (ref_note w1 B g A cap L D K s N E pn er HS1.out HB1.out HN.out).mono ?_
      rintro e2 w2 ⟨rfl, hs2, hw2⟩
      have HS2 := Lib.hid hs2
      have HW2 := Lib.hid (HW1.out.trans hw2)
      clear hs2 hw2 HS1 HW1
      go_wp2_with fail
      exact HK'.out _ _ rfl ⟨HS2.out, HW2.out⟩
  intro t w3 hR
  obtain ⟨hs3, hw3⟩ := hR
  dsimp only [mask, kInn, Nat.reduceAdd]
  have hB3 := Nat.le_trans HBW.out hw3.size
  obtain ⟨v0, v1, v2, v3⟩ := hs3.cells
  obtain ⟨vA, vE, vV, hV⟩ := hs3
  have u6 : w3.cell? ⟨g, 6, none⟩ = some vV := hV.cells.2.2.2.2.2.2.1
  obtain ⟨A', n', c', w4, hr, h6, h7, hs4, hw4⟩ := ev_add hV hB3 (by have := HLN.out (); omega) ⟨1, 4, W, q, 0, dp, b1⟩
  have e2 : (AEv.cells ⟨1, 4, W, q, 0, dp, b1⟩).toArray = #[.int .i64 1, .int .i64 4, .int .i64 W, .int .i64 (dp : Int), .int .i64 ((b : Int) - 1), .int .u64 q, .int .u8 0] := by simp [AEv.cells, HB1'.out]
  rw [e2] at hr
  clear e2
  have HR := Lib.hid hr
  have HS4 := Lib.hid hs4
  have HW4 := Lib.hid (hw3.trans hw4)
  clear hr hs4 hw4 hV hw3 hB3 HS1 HW1 HB1 HNN
  have HZ := ev_zero
  unfold ev0 at HZ
  go_wp2_with ((with_reducible refine is_append 44 rfl ?_); (with_reducible refine wpList_append_run rfl rfl HR.out ?_ ?_ ?_); (· rfl); (· rfl))
  have hmi : ManyI L it (a + 1) q.toNat (N ++ nn) (E ++ [⟨1, 4, W, q, 0, dp, b1⟩]) b R := by
    have h1 := HM0.out ()
    have h2 := HLN.out ()
    have h3 := HLB.out ()
    have h4 := HRR.out
    exact ⟨h3.1, h3.2, by rw [List.length_append]; omega, by rw [List.length_append, List.length_singleton]; omega, by rw [h4], by rw [h4], by rw [h4], by rw [h4]⟩
  refine wp_loop_mask kMany (fun n t W' => ∃ (i a' : Nat) (N' : List Note) (E' : List AEv), n + i = q.toNat ∧ t 20 = .int .u64 (i : Int) ∧ t 1 = .int .i64 (a' : Int) ∧ ManyI L it (a + 1) n N' E' a' R ∧ Sn W' B g A cap L D K s N' E' ∧ B ≤ W'.heap.size ∧ Below B w W') (q.toNat) ⟨0, b, N ++ nn, E ++ [⟨1, 4, W, q, 0, dp, b1⟩], Nat.add_zero _, rfl, rfl, hmi, HS4.out, Nat.le_trans HBW.out HW4.out.size, HW4.out⟩ ?_
  intro n t5 wr hrel K5 HK5
  dsimp only [mask, kMany, Nat.reduceAdd]
  obtain ⟨i, a', N', E', hni, e20, e1, hmi, hs, hB, hw⟩ := hrel
  rw [e20, e1]
  clear e20 e1
  cases n with
  | zero =>
    have hlt : ¬ (i : Int) < q := by omega
    have HS := Lib.hid hs
    have HW := Lib.hid hw
    obtain ⟨g1, g2, g3, g4⟩ := hmi.none
    have HG := Lib.hid (And.intro g1 (And.intro g2 (And.intro g3 g4)))
    clear hmi hs hB hw hni g1 g2 g3 g4
    go_wp2_with fail
    refine bodyPost_ret (results_tmp2 rfl _ _ _) rfl ?_
    obtain ⟨g1, g2, g3, g4⟩ := HG.out
    exact ⟨by rw [g3, g4]; rfl, by rw [← g1, ← g2]; exact HS.out, HW.out⟩
  | succ n =>
    have hlt : (i : Int) < q := by omega
    have hwr : IntKind.u64.wrap ((i : Int) + 1) = (i : Int) + 1 := IntWalk.u64_in _ (by omega)
    have HS := Lib.hid hs
    have HW := Lib.hid hw
    have HMI := Lib.hid hmi
    have hi6 := HI.out a' wr N' E' hmi.lo hmi.hi hs hB hmi.nb hmi.eb
    unfold ScP at hi6
    have hbi := HBD.out a' hmi.lo hmi.hi
    have eit : it a' = item a' (dp + 1) false := by rw [HEQ.out]
    rw [← eit] at hi6
    clear eit
    have HI6 := Lib.hid hi6
    have HBI := Lib.hid hbi
    have HBR := Lib.hid hB
    clear hi6 hbi hmi hs hB hw
    go_wp2_with fail
    refine HI6.out.mono ?_
    rintro e6 w6 ⟨rfl, hs6, hw6⟩
    have HS6 := Lib.hid hs6
    have HW6 := Lib.hid hw6
    clear hs6 hw6
    cases ho : (it a').ok with
    | true =>
      have HO := Lib.hid ho
      clear ho
      go_wp2_with fail
      exact HK5.out _ _ n (Nat.lt_succ_self n) rfl ⟨i + 1, (it a').to, _, _, by omega, rfl, rfl, HMI.out.next HBI.out HO.out, HS6.out, Nat.le_trans HBR.out HW6.out.size, HW.out.trans HW6.out⟩
    | false =>
      have HO := Lib.hid ho
      clear ho
      go_wp2_with fail
      refine bodyPost_ret (results_tmp2 rfl _ _ _) rfl ?_
      obtain ⟨g1, g2, g3, g4⟩ := HMI.out.stop HO.out
      exact ⟨by rw [← g3, g4]; rfl, by rw [← g1, ← g2]; exact HS6.out, HW.out.trans HW6.out⟩
set_option maxRecDepth 100000 in
set_option maxHeartbeats 4000000 in
theorem inner_tag (B g : Nat) (A : Option Addr) (cap : Nat) (L : List Int) (D K : Nat) (s : Int) (a dp : Nat) (w : World) (N : List Note) (E : List AEv) (h : Sn w B g A cap L D K s N E) (hB : B ≤ w.heap.size) (hb : ByteL L) (hl : L.length ≤ 300) (ha : a < L.length) (hd : dp ≤ 1000) (hn : N.length ≤ 900000) (hn6 : N.length + 6 * (L.length - a) ≤ 890001) (he6 : E.length + 6 * (L.length - a) ≤ 890001) (he : E.length ≤ 900000) (item : Nat → Nat → Bool → Sc) (hit : ItemC B g A cap L D K s item (a + 1) dp false) (it : Nat → Sc) (heq : it = fun a => item a (dp + 1) false) (hbd : ∀ x, a + 1 ≤ x → x ≤ L.length → BdI L x (it x)) (hc : (hread (L.drop a)).e ≠ 9 ∧ (hread (L.drop a)).many ≠ 0) (hm : (hread (L.drop a)).major = 6) :
    InnAt B g A cap L D K s a dp w N E ⟨hnn (hread (L.drop a)) a ++ (scMany it 1 (a + (hread (L.drop a)).many.toNat)).notes, ⟨1, (hread (L.drop a)).major, (hread (L.drop a)).width, (hread (L.drop a)).arg, 0, dp, a + (hread (L.drop a)).many.toNat - 1⟩ :: (scMany it 1 (a + (hread (L.drop a)).many.toNat)).evs, (scMany it 1 (a + (hread (L.drop a)).many.toNat)).to, (scMany it 1 (a + (hread (L.drop a)).many.toNat)).ok⟩ := by
  obtain ⟨c0, c1, c2, c3⟩ := h.cells
  have HH := Lib.hid h
  have HB := Lib.hid hB
  have i1 : (a : Int) < L.length := by omega
  have i2 : (dp : Int) ≤ 1000 := by omega
  have i3 : (L.length : Int) ≤ 300 := by omega
  have i4 : (0 : Int) ≤ dp := by omega
  have i5 : (0 : Int) ≤ a := by omega
  have HRD := Lib.hid (ref_head h hB hb hl a (by omega))
  have hmn := hread_many (L.drop a)
  rw [List.length_drop] at hmn
  have hpl : (hread (L.drop a)).e ≠ 0 → (if (hread (L.drop a)).place < 0 then -1 else (hread (L.drop a)).place + (a : Int)) = ((a + (hread (L.drop a)).place.toNat : Nat) : Int) := fun h0 => by
    have := hread_placed h0
    rw [if_neg (by omega)]
    omega
  have hmj := hread_major (L.drop a) (fun c hc => hb c (List.mem_of_mem_drop hc))
  have hag := hread_arg (L.drop a)
  have hqlt := hread_arg_lt (L.drop a)
  unfold hreadV at HRD
  generalize hread (L.drop a) = r at *
  obtain ⟨m, W, q, z, p, er⟩ := r
  dsimp only at HRD hmn hpl hmj hag hc hm hqlt hbd hn6 he6 ⊢
  generalize (if p < 0 then -1 else p + (a : Int)) = pl at *
  have i6 : (a : Int) + z ≤ L.length := by omega
  have i7 : (0 : Int) ≤ z := hmn.1
  have hlN : N.length ≤ 1000000000 := by omega
  have HN := Lib.hid hlN
  clear h hB hb hl ha hd hmn hlN hn
  obtain ⟨hc1, hc2⟩ := hc
  have hnn0 : er = 0 → hnn ⟨m, W, q, z, p, er⟩ a = [] := fun h => if_pos h
  have hnn1 : er ≠ 0 → hnn ⟨m, W, q, z, p, er⟩ a = [(a + p.toNat, er)] := fun h => if_neg h
  have hln : (hnn ⟨m, W, q, z, p, er⟩ a).length ≤ 1 := by unfold hnn; split <;> simp
  generalize hnn ⟨m, W, q, z, p, er⟩ a = nn at *
  generalize a + p.toNat = pn at *
  have hab : (a : Int) + z = ((a + z.toNat : Nat) : Int) := by omega
  have hb1' : ((a + z.toNat - 1 : Nat) : Int) = ((a + z.toNat : Nat) : Int) - 1 := by omega
  have i8 : (a : Int) < ((a + z.toNat : Nat) : Int) := by omega
  have i9 : ((a + z.toNat : Nat) : Int) ≤ L.length := by omega
  have hz : z ≠ 0 := hc2
  have HB1' := Lib.hid hb1'
  have HLN := Lib.hid (fun _ : Unit => And.intro hln (And.intro HN.out he))
  have HM0 := Lib.hid (fun _ : Unit => And.intro hn6 he6)
  clear hn6 he6
  have HBD := Lib.hid hbd
  have HI := Lib.hid hit
  have HEQ := Lib.hid heq
  clear hbd hit heq
  have HNN := Lib.hid (And.intro hnn0 (And.intro hnn1 hpl))
  generalize a + z.toNat - 1 = b1 at *
  generalize a + z.toNat = b at *
  have h9 : (er == 9) = false := by simp [hc1]
  clear hb1' hln hnn0 hnn1 hpl he hc2
  subst hm
  unfold InnAt ScP
  dsimp only
  have hlb : a + 1 ≤ b := by omega
  have hbl : b ≤ L.length := by omega
  have HLB := Lib.hid (fun _ : Unit => And.intro hlb hbl)
  clear hlb hbl
  obtain ⟨R, hR⟩ : ∃ R : Sc, R = ⟨(N ++ nn) ++ (scMany it 1 b).notes, (E ++ [⟨1, 6, W, q, 0, dp, b1⟩]) ++ (scMany it 1 b).evs, (scMany it 1 b).to, (scMany it 1 b).ok⟩ := ⟨_, rfl⟩
  have HRR := Lib.hid hR
  have hRP : ∀ (e : Ending) (w' : World), (e = .returned (.tuple #[.int .i64 (R.to : Int), .bool R.ok]) ∧ Sn w' B g A cap L D K s R.notes R.evs ∧ Below B w w') → (e = .returned (.tuple #[.int .i64 ((scMany it 1 b).to : Int), .bool (scMany it 1 b).ok]) ∧ Sn w' B g A cap L D K s (N ++ (nn ++ (scMany it 1 b).notes)) (E ++ ⟨1, 6, W, q, 0, dp, b1⟩ :: (scMany it 1 b).evs) ∧ Below B w w') := fun e w' h => by
    subst hR
    simpa [List.append_assoc] using h
  refine Calls.mono (?_ : Calls _ _ _ _ fun e w' => e = .returned (.tuple #[.int .i64 (R.to : Int), .bool R.ok]) ∧ Sn w' B g A cap L D K s R.notes R.evs ∧ Below B w w') hRP
  clear hR hRP
  go_enter Try.func35, Try.ntmps35
  go_wp2_with fail
  refine HRD.out.mono ?_
  rintro e1 w1 ⟨rfl, hb1⟩
  have HS1 := Lib.hid (HH.out.on hb1 HB.out)
  have HB1 := Lib.hid (Nat.le_trans HB.out hb1.size)
  have HW1 := Lib.hid (hb1.mono HB.out)
  have HBW := Lib.hid HB.out
  clear hb1 HRD HB HH c0 c1 c2 c3
  go_upto_if 51 with fail
  refine wp_cut_mask kInn (fun _ W => Sn W B g A cap L D K s (N ++ nn) E ∧ Below B w W) ?_ ?_
  · intro K' HK'
    by_cases her : er = 0
    · have e3 := HNN.out.1 her
      subst her
      subst e3
      clear HNN
      go_wp2_with fail
      refine HK'.out _ _ rfl ⟨?_, HW1.out⟩
      rw [List.append_nil]
      exact HS1.out
    · have hpl := HNN.out.2.2 her
      have e3 := HNN.out.2.1 her
      subst hpl
      subst e3
      clear HNN
      go_wp2_with fail
      refine (ref_note w1 B g A cap L D K s N E pn er HS1.out HB1.out HN.out).mono ?_
      rintro e2 w2 ⟨rfl, hs2, hw2⟩
      have HS2 := Lib.hid hs2
      have HW2 := Lib.hid (HW1.out.trans hw2)
      clear hs2 hw2 HS1 HW1
      go_wp2_with fail
      exact HK'.out _ _ rfl ⟨HS2.out, HW2.out⟩
  intro t w3 hR
  obtain ⟨hs3, hw3⟩ := hR
  dsimp only [mask, kInn, Nat.reduceAdd]
  have hB3 := Nat.le_trans HBW.out hw3.size
  obtain ⟨v0, v1, v2, v3⟩ := hs3.cells
  obtain ⟨vA, vE, vV, hV⟩ := hs3
  have u6 : w3.cell? ⟨g, 6, none⟩ = some vV := hV.cells.2.2.2.2.2.2.1
  obtain ⟨A', n', c', w4, hr, h6, h7, hs4, hw4⟩ := ev_add hV hB3 (by have := HLN.out (); omega) ⟨1, 6, W, q, 0, dp, b1⟩
  have e2 : (AEv.cells ⟨1, 6, W, q, 0, dp, b1⟩).toArray = #[.int .i64 1, .int .i64 6, .int .i64 W, .int .i64 (dp : Int), .int .i64 ((b : Int) - 1), .int .u64 q, .int .u8 0] := by simp [AEv.cells, HB1'.out]
  rw [e2] at hr
  clear e2
  have HR := Lib.hid hr
  have HS4 := Lib.hid hs4
  have HW4 := Lib.hid (hw3.trans hw4)
  clear hr hs4 hw4 hV hw3 hB3 HS1 HW1 HB1 HNN
  have HZ := ev_zero
  unfold ev0 at HZ
  go_wp2_with ((with_reducible refine is_append 44 rfl ?_); (with_reducible refine wpList_append_run rfl rfl HR.out ?_ ?_ ?_); (· rfl); (· rfl))
  have hmi : ManyI L it (a + 1) 1 (N ++ nn) (E ++ [⟨1, 6, W, q, 0, dp, b1⟩]) b R := by
    have h1 := HM0.out ()
    have h2 := HLN.out ()
    have h3 := HLB.out ()
    have h4 := HRR.out
    exact ⟨h3.1, h3.2, by rw [List.length_append]; omega, by rw [List.length_append, List.length_singleton]; omega, by rw [h4], by rw [h4], by rw [h4], by rw [h4]⟩
  refine wp_loop_mask kMany (fun n t W' => ∃ (i a' : Nat) (N' : List Note) (E' : List AEv), n + i = 1 ∧ t 20 = .int .u64 (i : Int) ∧ t 1 = .int .i64 (a' : Int) ∧ ManyI L it (a + 1) n N' E' a' R ∧ Sn W' B g A cap L D K s N' E' ∧ B ≤ W'.heap.size ∧ Below B w W') (1) ⟨0, b, N ++ nn, E ++ [⟨1, 6, W, q, 0, dp, b1⟩], Nat.add_zero _, rfl, rfl, hmi, HS4.out, Nat.le_trans HBW.out HW4.out.size, HW4.out⟩ ?_
  intro n t5 wr hrel K5 HK5
  dsimp only [mask, kMany, Nat.reduceAdd]
  obtain ⟨i, a', N', E', hni, e20, e1, hmi, hs, hB, hw⟩ := hrel
  rw [e20, e1]
  clear e20 e1
  cases n with
  | zero =>
    have hlt : ¬ (i : Int) < 1 := by omega
    have HS := Lib.hid hs
    have HW := Lib.hid hw
    obtain ⟨g1, g2, g3, g4⟩ := hmi.none
    have HG := Lib.hid (And.intro g1 (And.intro g2 (And.intro g3 g4)))
    clear hmi hs hB hw hni g1 g2 g3 g4
    go_wp2_with fail
    refine bodyPost_ret (results_tmp2 rfl _ _ _) rfl ?_
    obtain ⟨g1, g2, g3, g4⟩ := HG.out
    exact ⟨by rw [g3, g4]; rfl, by rw [← g1, ← g2]; exact HS.out, HW.out⟩
  | succ n =>
    have hlt : (i : Int) < 1 := by omega
    have hwr : IntKind.u64.wrap ((i : Int) + 1) = (i : Int) + 1 := IntWalk.u64_in _ (by omega)
    have HS := Lib.hid hs
    have HW := Lib.hid hw
    have HMI := Lib.hid hmi
    have hi6 := HI.out a' wr N' E' hmi.lo hmi.hi hs hB hmi.nb hmi.eb
    unfold ScP at hi6
    have hbi := HBD.out a' hmi.lo hmi.hi
    have eit : it a' = item a' (dp + 1) false := by rw [HEQ.out]
    rw [← eit] at hi6
    clear eit
    have HI6 := Lib.hid hi6
    have HBI := Lib.hid hbi
    have HBR := Lib.hid hB
    clear hi6 hbi hmi hs hB hw
    go_wp2_with fail
    refine HI6.out.mono ?_
    rintro e6 w6 ⟨rfl, hs6, hw6⟩
    have HS6 := Lib.hid hs6
    have HW6 := Lib.hid hw6
    clear hs6 hw6
    cases ho : (it a').ok with
    | true =>
      have HO := Lib.hid ho
      clear ho
      go_wp2_with fail
      exact HK5.out _ _ n (Nat.lt_succ_self n) rfl ⟨i + 1, (it a').to, _, _, by omega, rfl, rfl, HMI.out.next HBI.out HO.out, HS6.out, Nat.le_trans HBR.out HW6.out.size, HW.out.trans HW6.out⟩
    | false =>
      have HO := Lib.hid ho
      clear ho
      go_wp2_with fail
      refine bodyPost_ret (results_tmp2 rfl _ _ _) rfl ?_
      obtain ⟨g1, g2, g3, g4⟩ := HMI.out.stop HO.out
      exact ⟨by rw [← g3, g4]; rfl, by rw [← g1, ← g2]; exact HS6.out, HW.out.trans HW6.out⟩
end Go.Proofs.Ytchhbcmkhbfpoaa
