/- The document's scan (layer 14): items in a row. -/
import Derived.Test.YtchhbcmkhbfpoaaKAR
import Derived.OwnWalk
import Derived.Test.YtchhbcmkhbfpoaaKAN
import Derived.Test.YtchhbcmkhbfpoaaKAJ
import Derived.Test.YtchhbcmkhbfpoaaKAA
namespace Go.Proofs.Ytchhbcmkhbfpoaa
open Go.RowKit

def kMany : List Bool := [false, true, false, false, false, false, false, false, false, false, false, false, false, false, false, false, false, false, false, true, true, false, false, false, false, false, false, false, false, false, false, false, false, false, false, false, false, false, false, false, false, false, false, false, false, false, false, false, false, false, false, false, false, false, false, false, false, false, false, false, false, false, false, false, false, false, false, false, false, false, false, false, false, false, false, false, false, false, false, false, false, false, false, false, false, false, false, false, false, false, false, false, false, false, false, false, false, false, false, false, false, false, false, false, false, false, false, false, false, false, false, false, false, false, false, false, false, false, false, false, false, false, false, false, false, false, false, false, false, false, false, false, false, false, false, false, false, false, false, false, false, false, false, false, false, false, false, false, false, false, false, false, false, false, false, false, false, false, false, false, false, false, false, false, false, false, true, true, true, true, true, true, true, true, true, true, true, true, true, true, true]
theorem hread_arg_lt (L : List Int) : (hread L).arg < 18446744073709551616 := by
  unfold hread
  have hb : ∀ W, harg L W < 18446744073709551616 := fun W => (big_range 18446744073709551616 (pad (L.drop 1) W.toNat) (by decide)).2
  repeat' split
  all_goals first
    | exact hb _
    | (show (0 : Int) < 18446744073709551616; decide)
    | (show L.getD 0 0 % 32 < 18446744073709551616; omega)
/-- Item's contract at all places from lim on, one level deeper. -/
def ItemC (B g : Nat) (A : Option Addr) (cap : Nat) (L : List Int) (D K : Nat) (s : Int) (item : Nat → Nat → Bool → Sc) (lim dp : Nat) (key : Bool) : Prop :=
  ∀ (a : Nat) (w : World) (N : List Note) (E : List AEv), lim ≤ a → a ≤ L.length → Sn w B g A cap L D K s N E → B ≤ w.heap.size → N.length + 6 * (L.length - a) ≤ 890000 → E.length + 6 * (L.length - a) ≤ 890000 →
    Calls Try.prog 24 #[.pointer (some ⟨g, 0, none⟩), .int .i64 (a : Int), .int .i64 ((dp : Int) + 1), .bool key] w fun e w' => ScP B g A cap L D K s N E (item a (dp + 1) key) w e w'
/-- Items in a row: where the scan stands. -/
structure ManyI (L : List Int) (it : Nat → Sc) (lim n : Nat) (N : List Note) (E : List AEv) (a : Nat) (R : Sc) : Prop where
  lo : lim ≤ a
  hi : a ≤ L.length
  nb : N.length + 6 * (L.length - a) ≤ 890000
  eb : E.length + 6 * (L.length - a) ≤ 890000
  notes : N ++ (scMany it n a).notes = R.notes
  evs : E ++ (scMany it n a).evs = R.evs
  to : (scMany it n a).to = R.to
  ok : (scMany it n a).ok = R.ok
theorem ManyI.none {L : List Int} {it : Nat → Sc} {lim : Nat} {N : List Note} {E : List AEv} {a : Nat} {R : Sc} (h : ManyI L it lim 0 N E a R) : N = R.notes ∧ E = R.evs ∧ a = R.to ∧ R.ok = true := by
  have h1 := h.notes; have h2 := h.evs; have h3 := h.to; have h4 := h.ok
  unfold scMany at h1 h2 h3 h4
  exact ⟨by simpa using h1, by simpa using h2, h3, h4.symm⟩
theorem ManyI.stop {L : List Int} {it : Nat → Sc} {lim n : Nat} {N : List Note} {E : List AEv} {a : Nat} {R : Sc} (h : ManyI L it lim (n + 1) N E a R) (ho : (it a).ok = false) : N ++ (it a).notes = R.notes ∧ E ++ (it a).evs = R.evs ∧ (it a).to = R.to ∧ R.ok = false := by
  have h1 := h.notes; have h2 := h.evs; have h3 := h.to; have h4 := h.ok
  unfold scMany at h1 h2 h3 h4
  rw [if_neg (by rw [ho]; decide)] at h1 h2 h3 h4
  exact ⟨h1, h2, h3, by rw [← h4, ho]⟩
theorem ManyI.next {L : List Int} {it : Nat → Sc} {lim n : Nat} {N : List Note} {E : List AEv} {a : Nat} {R : Sc} (h : ManyI L it lim (n + 1) N E a R) (hb : BdI L a (it a)) (ho : (it a).ok = true) : ManyI L it lim n (N ++ (it a).notes) (E ++ (it a).evs) (it a).to R := by
  have h1 := h.notes; have h2 := h.evs; have h3 := h.to; have h4 := h.ok
  have l1 := h.lo; have l2 := h.hi; have l3 := h.nb; have l4 := h.eb
  unfold scMany at h1 h2 h3 h4
  rw [if_pos ho] at h1 h2 h3 h4
  obtain ⟨b1, b2, b3⟩ := hb.one ho
  have b4 := hb.hi
  exact ⟨by omega, b4, by rw [List.length_append]; omega, by rw [List.length_append]; omega, by rw [List.append_assoc]; exact h1, by rw [List.append_assoc]; exact h2, h3, h4⟩
set_option maxRecDepth 100000 in
set_option maxHeartbeats 4000000 in
theorem inner_list (B g : Nat) (A : Option Addr) (cap : Nat) (L : List Int) (D K : Nat) (s : Int) (a dp : Nat) (w : World) (N : List Note) (E : List AEv) (h : Sn w B g A cap L D K s N E) (hB : B ≤ w.heap.size) (hb : ByteL L) (hl : L.length ≤ 300) (ha : a < L.length) (hd : dp ≤ 1000) (hn : N.length ≤ 900000) (hn6 : N.length + 6 * (L.length - a) ≤ 890001) (he6 : E.length + 6 * (L.length - a) ≤ 890001) (he : E.length ≤ 900000) (item : Nat → Nat → Bool → Sc) (hit : ItemC B g A cap L D K s item (a + 1) dp false) (it : Nat → Sc) (heq : it = fun a => item a (dp + 1) false) (hbd : ∀ x, a + 1 ≤ x → x ≤ L.length → BdI L x (it x)) (hc : (hread (L.drop a)).e ≠ 9 ∧ (hread (L.drop a)).many ≠ 0) (hm : (hread (L.drop a)).major = 4) :
    InnAt B g A cap L D K s a dp w N E ⟨hnn (hread (L.drop a)) a ++ (scMany it (hread (L.drop a)).arg.toNat (a + (hread (L.drop a)).many.toNat)).notes, ⟨1, (hread (L.drop a)).major, (hread (L.drop a)).width, (hread (L.drop a)).arg, 0, dp, a + (hread (L.drop a)).many.toNat - 1⟩ :: (scMany it (hread (L.drop a)).arg.toNat (a + (hread (L.drop a)).many.toNat)).evs, (scMany it (hread (L.drop a)).arg.toNat (a + (hread (L.drop a)).many.toNat)).to, (scMany it (hread (L.drop a)).arg.toNat (a + (hread (L.drop a)).many.toNat)).ok⟩ := by
  obtain ⟨c0, c1, c2, c3⟩ := h.cells
  have HH := Lib.hid h
  have HB := Lib.hid hB
  have i1 : (a : Int) < L.length := by omega
  have i2 : (dp : Int) ≤ 1000 := by omega
  have i3 : (L.length : Int) ≤ 300 := by omega
  have i4 : (0 : Int) ≤ dp := by omega
  have i5 : (0 : Int) ≤ a := by omega
  have HRD := Lib.hid (ref_head h hB hb hl a (by omega))
  have hmn := hread_many (L.drop a)
  rw [List.length_drop] at hmn
  have hpl : (hread (L.drop a)).e ≠ 0 → (if (hread (L.drop a)).place < 0 then -1 else (hread (L.drop a)).place + (a : Int)) = ((a + (hread (L.drop a)).place.toNat : Nat) : Int) := fun h0 => by
    have := hread_placed h0
    rw [if_neg (by omega)]
    omega
  have hmj := hread_major (L.drop a) (fun c hc => hb c (List.mem_of_mem_drop hc))
  have hag := hread_arg (L.drop a)
  have hqlt := hread_arg_lt (L.drop a)
  unfold hreadV at HRD
  generalize hread (L.drop a) = r at *
  obtain ⟨m, W, q, z, p, er⟩ := r
  dsimp only at HRD hmn hpl hmj hag hc hm hqlt hbd hn6 he6 ⊢
  generalize (if p < 0 then -1 else p + (a : Int)) = pl at *
  have i6 : (a : Int) + z ≤ L.length := by omega
  have i7 : (0 : Int) ≤ z := hmn.1
  have hlN : N.length ≤ 1000000000 := by omega
  have HN := Lib.hid hlN
  clear h hB hb hl ha hd hmn hlN hn
  obtain ⟨hc1, hc2⟩ := hc
  have hnn0 : er = 0 → hnn ⟨m, W, q, z, p, er⟩ a = [] := fun h => if_pos h
  have hnn1 : er ≠ 0 → hnn ⟨m, W, q, z, p, er⟩ a = [(a + p.toNat, er)] := fun h => if_neg h
  have hln : (hnn ⟨m, W, q, z, p, er⟩ a).length ≤ 1 := by unfold hnn; split <;> simp
  generalize hnn ⟨m, W, q, z, p, er⟩ a = nn at *
  generalize a + p.toNat = pn at *
  have hab : (a : Int) + z = ((a + z.toNat : Nat) : Int) := by omega
  have hb1' : ((a + z.toNat - 1 : Nat) : Int) = ((a + z.toNat : Nat) : Int) - 1 := by omega
  have i8 : (a : Int) < ((a + z.toNat : Nat) : Int) := by omega
  have i9 : ((a + z.toNat : Nat) : Int) ≤ L.length := by omega
  have hz : z ≠ 0 := hc2
  have HB1' := Lib.hid hb1'
  have HLN := Lib.hid (fun _ : Unit => And.intro hln (And.intro HN.out he))
  have HM0 := Lib.hid (fun _ : Unit => And.intro hn6 he6)
  clear hn6 he6
  have HBD := Lib.hid hbd
  have HI := Lib.hid hit
  have HEQ := Lib.hid heq
  clear hbd hit heq
  have HNN := Lib.hid (And.intro hnn0 (And.intro hnn1 hpl))
  generalize a + z.toNat - 1 = b1 at *
  generalize a + z.toNat = b at *
  have h9 : (er == 9) = false := by simp [hc1]
  clear hb1' hln hnn0 hnn1 hpl he hc2
  subst hm
  unfold InnAt ScP
  dsimp only
  have hlb : a + 1 ≤ b := by omega
  have hbl : b ≤ L.length := by omega
  have HLB := Lib.hid (fun _ : Unit => And.intro hlb hbl)
  clear hlb hbl
  obtain ⟨R, hR⟩ : ∃ R : Sc, R = ⟨(N ++ nn) ++ (scMany it q.toNat b).notes, (E ++ [⟨1, 4, W, q, 0, dp, b1⟩]) ++ (scMany it q.toNat b).evs, (scMany it q.toNat b).to, (scMany it q.toNat b).ok⟩ := ⟨_, rfl⟩
  have HRR := Lib.hid hR
  have hRP : ∀ (e : Ending) (w' : World), (e = .returned (.tuple #[.int .i64 (R.to : Int), .bool R.ok]) ∧ Sn w' B g A cap L D K s R.notes R.evs ∧ Below B w w') → (e = .returned (.tuple #[.int .i64 ((scMany it q.toNat b).to : Int), .bool (scMany it q.toNat b).ok]) ∧ Sn w' B g A cap L D K s (N ++ (nn ++ (scMany it q.toNat b).notes)) (E ++ ⟨1, 4, W, q, 0, dp, b1⟩ :: (scMany it q.toNat b).evs) ∧ Below B w w') := fun e w' h => by
    subst hR
    simpa [List.append_assoc] using h
  refine Calls.mono (?_ : Calls _ _ _ _ fun e w' => e = .returned (.tuple #[.int .i64 (R.to : Int), .bool R.ok]) ∧ Sn w' B g A cap L D K s R.notes R.evs ∧ Below B w w') hRP
  clear hR hRP
  go_enter Try.func35, Try.ntmps35
  go_wp2_with fail
  refine HRD.out.mono ?_
  rintro e1 w1 ⟨rfl, hb1⟩
  have HS1 := Lib.hid (HH.out.on hb1 HB.out)
  have HB1 := Lib.hid (Nat.le_trans HB.out hb1.size)
  have HW1 := Lib.hid (hb1.mono HB.out)
  have HBW := Lib.hid HB.out
  clear hb1 HRD HB HH c0 c1 c2 c3
  go_upto_if 51 with fail
  refine wp_cut_mask kInn (fun _ W => Sn W B g A cap L D K s (N ++ nn) E ∧ Below B w W) ?_ ?_
  · intro K' HK'
    by_cases her : er = 0
    · have e3 := HNN.out.1 her
      subst her
      subst e3
      clear HNN
      go_wp2_with fail
      refine HK'.out _ _ rfl ⟨?_, HW1.out⟩
      rw [List.append_nil]
      exact HS1.out
    · have hpl := HNN.out.2.2 her
      have e3 := HNN.out.2.1 her
      subst hpl
      subst e3
      clear HNN
      go_wp2_with fail
      refine (ref_note w1 B g A cap L D K s N E pn er HS1.out HB1.out HN.out).mono ?_
      rintro e2 w2 ⟨rfl, hs2, hw2⟩
      have HS2 := Lib.hid hs2
      have HW2 := Lib.hid (HW1.out.trans hw2)
      clear hs2 hw2 HS1 HW1
      go_wp2_with fail
      exact HK'.out _ _ rfl ⟨HS2.out, HW2.out⟩
  intro t w3 hR
  obtain ⟨hs3, hw3⟩ := hR
  dsimp only [mask, kInn, Nat.reduceAdd]
  have hB3 := Nat.le_trans HBW.out hw3.size
  obtain ⟨v0, v1, v2, v3⟩ := hs3.cells
  obtain ⟨vA, vE, vV, hV⟩ := hs3
  have u6 : w3.cell? ⟨g, 6, none⟩ = some vV := hV.cells.2.2.2.2.2.2.1
  obtain ⟨A', n', c', w4, hr, h6, h7, hs4, hw4⟩ := ev_add hV hB3 (by have := HLN.out (); omega) ⟨1, 4, W, q, 0, dp, b1⟩
  have e2 : (AEv.cells ⟨1, 4, W, q, 0, dp, b1⟩).toArray = #[.int .i64 1, .int .i64 4, .int .i64 W, .int .i64 (dp : Int), .int .i64 ((b : Int) - 1), .int .u64 q, .int .u8 0] := by simp [AEv.cells, HB1'.out]
  rw [e2] at hr
  clear e2
  have HR := Lib.hid hr
  have HS4 := Lib.hid hs4
  have HW4 := Lib.hid (hw3.trans hw4)
  clear hr hs4 hw4 hV hw3 hB3 HS1 HW1 HB1 HNN
  have HZ := ev_zero
  unfold ev0 at HZ
  go_wp2_with ((with_reducible refine is_append 44 rfl ?_); (with_reducible refine wpList_append_run rfl rfl HR.out ?_ ?_ ?_); (· rfl); (· rfl))
  have hmi : ManyI L it (a + 1) q.toNat (N ++ nn) (E ++ [⟨1, 4, W, q, 0, dp, b1⟩]) b R := by
    have h1 := HM0.out ()
    have h2 := HLN.out ()
    have h3 := HLB.out ()
    have h4 := HRR.out
    exact ⟨h3.1, h3.2, by rw [List.length_append]; omega, by rw [List.length_append, List.length_singleton]; omega, by rw [h4], by rw [h4], by rw [h4], by rw [h4]⟩
  refine wp_loop_mask kMany (fun n t W' => ∃ (i a' : Nat) (N' : List Note) (E' : List AEv), n + i = q.toNat ∧ t 20 = .int .u64 (i : Int) ∧ t 1 = .int .i64 (a' : Int) ∧ ManyI L it (a + 1) n N' E' a' R ∧ Sn W' B g A cap L D K s N' E' ∧ B ≤ W'.heap.size ∧ Below B w W') (q.toNat) ⟨0, b, N ++ nn, E ++ [⟨1, 4, W, q, 0, dp, b1⟩], Nat.add_zero _, rfl, rfl, hmi, HS4.out, Nat.le_trans HBW.out HW4.out.size, HW4.out⟩ ?_
  intro n t5 wr hrel K5 HK5
  dsimp only [mask, kMany, Nat.reduceAdd]
  obtain ⟨i, a', N', E', hni, e20, e1, hmi, hs, hB, hw⟩ := hrel
  rw [e20, e1]
  clear e20 e1
  cases n with
  | zero =>
    have hlt : ¬ (i : Int) < q := by omega
    have HS := Lib.hid hs
    have HW := Lib.hid hw
    obtain ⟨g1, g2, g3, g4⟩ := hmi.none
    have HG := Lib.hid (And.intro g1 (And.intro g2 (And.intro g3 g4)))
    clear hmi hs hB hw hni g1 g2 g3 g4
    go_wp2_with fail
    refine bodyPost_ret (results_tmp2 rfl _ _ _) rfl ?_
    obtain ⟨g1, g2, g3, g4⟩ := HG.out
    exact ⟨by rw [g3, g4]; rfl, by rw [← g1, ← g2]; exact HS.out, HW.out⟩
  | succ n =>
    have hlt : (i : Int) < q := by omega
    have hwr : IntKind.u64.wrap ((i : Int) + 1) = (i : Int) + 1 := IntWalk.u64_in _ (by omega)
    have HS := Lib.hid hs
    have HW := Lib.hid hw
    have HMI := Lib.hid hmi
    have hi6 := HI.out a' wr N' E' hmi.lo hmi.hi hs hB hmi.nb hmi.eb
    unfold ScP at hi6
    have hbi := HBD.out a' hmi.lo hmi.hi
    have eit : it a' = item a' (dp + 1) false := by rw [HEQ.out]
    rw [← eit] at hi6
    clear eit
    have HI6 := Lib.hid hi6
    have HBI := Lib.hid hbi
    have HBR := Lib.hid hB
    clear hi6 hbi hmi hs hB hw
    go_wp2_with fail
    refine HI6.out.mono ?_
    rintro e6 w6 ⟨rfl, hs6, hw6⟩
    have HS6 := Lib.hid hs6
    have HW6 := Lib.hid hw6
    clear hs6 hw6
    cases ho : (it a').ok with
    | true =>
      have HO := Lib.hid ho
      clear ho
      go_wp2_with fail
      exact HK5.out _ _ n (Nat.lt_succ_self n) rfl ⟨i + 1, (it a').to, _, _, by omega, rfl, rfl, HMI.out.next HBI.out HO.out, HS6.out, Nat.le_trans HBR.out HW6.out.size, HW.out.trans HW6.out⟩
    | false =>
      have HO := Lib.hid ho
      clear ho
      go_wp2_with fail
      refine bodyPost_ret (results_tmp2 rfl _ _ _) rfl ?_
      obtain ⟨g1, g2, g3, g4⟩ := HMI.out.stop HO.out
      exact ⟨by rw [← g3, g4]; rfl, by rw [← g1, ← g2]; exact HS6.out, HW.out.trans HW6.out⟩
set_option maxRecDepth 100000 in
set_option maxHeartbeats 4000000 in
theorem inner_tag (B g : Nat) (A : Option Addr) (cap : Nat) (L : List Int) (D K : Nat) (s : Int) (a dp : Nat) (w : World) (N : List Note) (E : List AEv) (h : Sn w B g A cap L D K s N E) (hB : B ≤ w.heap.size) (hb : ByteL L) (hl : L.length ≤ 300) (ha : a < L.length) (hd : dp ≤ 1000) (hn : N.length ≤ 900000) (hn6 : N.length + 6 * (L.length - a) ≤ 890001) (he6 : E.length + 6 * (L.length - a) ≤ 890001) (he : E.length ≤ 900000) (item : Nat → Nat → Bool → Sc) (hit : ItemC B g A cap L D K s item (a + 1) dp false) (it : Nat → Sc) (heq : it = fun a => item a (dp + 1) false) (hbd : ∀ x, a + 1 ≤ x → x ≤ L.length → BdI L x (it x)) (hc : (hread (L.drop a)).e ≠ 9 ∧ (hread (L.drop a)).many ≠ 0) (hm : (hread (L.drop a)).major = 6) :
    InnAt B g A cap L D K s a dp w N E ⟨hnn (hread (L.drop a)) a ++ (scMany it 1 (a + (hread (L.drop a)).many.toNat)).notes, ⟨1, (hread (L.drop a)).major, (hread (L.drop a)).width, (hread (L.drop a)).arg, 0, dp, a + (hread (L.drop a)).many.toNat - 1⟩ :: (scMany it 1 (a + (hread (L.drop a)).many.toNat)).evs, (scMany it 1 (a + (hread (L.drop a)).many.toNat)).to, (scMany it 1 (a + (hread (L.drop a)).many.toNat)).ok⟩ := by
  obtain ⟨c0, c1, c2, c3⟩ := h.cells
  have HH := Lib.hid h
  have HB := Lib.hid hB
  have i1 : (a : Int) < L.length := by omega
  have i2 : (dp : Int) ≤ 1000 := by omega
  have i3 : (L.length : Int) ≤ 300 := by omega
  have i4 : (0 : Int) ≤ dp := by omega
  have i5 : (0 : Int) ≤ a := by omega
  have HRD := Lib.hid (ref_head h hB hb hl a (by omega))
  have hmn := hread_many (L.drop a)
  rw [List.length_drop] at hmn
  have hpl : (hread (L.drop a)).e ≠ 0 → (if (hread (L.drop a)).place < 0 then -1 else (hread (L.drop a)).place + (a : Int)) = ((a + (hread (L.drop a)).place.toNat : Nat) : Int) := fun h0 => by
    have := hread_placed h0
    rw [if_neg (by omega)]
    omega
  have hmj := hread_major (L.drop a) (fun c hc => hb c (List.mem_of_mem_drop hc))
  have hag := hread_arg (L.drop a)
  have hqlt := hread_arg_lt (L.drop a)
  unfold hreadV at HRD
  generalize hread (L.drop a) = r at *
  obtain ⟨m, W, q, z, p, er⟩ := r
  dsimp only at HRD hmn hpl hmj hag hc hm hqlt hbd hn6 he6 ⊢
  generalize (if p < 0 then -1 else p + (a : Int)) = pl at *
  have i6 : (a : Int) + z ≤ L.length := by omega
  have i7 : (0 : Int) ≤ z := hmn.1
  have hlN : N.length ≤ 1000000000 := by omega
  have HN := Lib.hid hlN
  clear h hB hb hl ha hd hmn hlN hn
  obtain ⟨hc1, hc2⟩ := hc
  have hnn0 : er = 0 → hnn ⟨m, W, q, z, p, er⟩ a = [] := fun h => if_pos h
  have hnn1 : er ≠ 0 → hnn ⟨m, W, q, z, p, er⟩ a = [(a + p.toNat, er)] := fun h => if_neg h
  have hln : (hnn ⟨m, W, q, z, p, er⟩ a).length ≤ 1 := by unfold hnn; split <;> simp
  generalize hnn ⟨m, W, q, z, p, er⟩ a = nn at *
  generalize a + p.toNat = pn at *
  have hab : (a : Int) + z = ((a + z.toNat : Nat) : Int) := by omega
  have hb1' : ((a + z.toNat - 1 : Nat) : Int) = ((a + z.toNat : Nat) : Int) - 1 := by omega
  have i8 : (a : Int) < ((a + z.toNat : Nat) : Int) := by omega
  have i9 : ((a + z.toNat : Nat) : Int) ≤ L.length := by omega
  have hz : z ≠ 0 := hc2
  have HB1' := Lib.hid hb1'
  have HLN := Lib.hid (fun _ : Unit => And.intro hln (And.intro HN.out he))
  have HM0 := Lib.hid (fun _ : Unit => And.intro hn6 he6)
  clear hn6 he6
  have HBD := Lib.hid hbd
  have HI := Lib.hid hit
  have HEQ := Lib.hid heq
  clear hbd hit heq
  have HNN := Lib.hid (And.intro hnn0 (And.intro hnn1 hpl))
  generalize a + z.toNat - 1 = b1 at *
  generalize a + z.toNat = b at *
  have h9 : (er == 9) = false := by simp [hc1]
  clear hb1' hln hnn0 hnn1 hpl he hc2
  subst hm
  unfold InnAt ScP
  dsimp only
  have hlb : a + 1 ≤ b := by omega
  have hbl : b ≤ L.length := by omega
  have HLB := Lib.hid (fun _ : Unit => And.intro hlb hbl)
  clear hlb hbl
  obtain ⟨R, hR⟩ : ∃ R : Sc, R = ⟨(N ++ nn) ++ (scMany it 1 b).notes, (E ++ [⟨1, 6, W, q, 0, dp, b1⟩]) ++ (scMany it 1 b).evs, (scMany it 1 b).to, (scMany it 1 b).ok⟩ := ⟨_, rfl⟩
  have HRR := Lib.hid hR
  have hRP : ∀ (e : Ending) (w' : World), (e = .returned (.tuple #[.int .i64 (R.to : Int), .bool R.ok]) ∧ Sn w' B g A cap L D K s R.notes R.evs ∧ Below B w w') → (e = .returned (.tuple #[.int .i64 ((scMany it 1 b).to : Int), .bool (scMany it 1 b).ok]) ∧ Sn w' B g A cap L D K s (N ++ (nn ++ (scMany it 1 b).notes)) (E ++ ⟨1, 6, W, q, 0, dp, b1⟩ :: (scMany it 1 b).evs) ∧ Below B w w') := fun e w' h => by
    subst hR
    simpa [List.append_assoc] using h
  refine Calls.mono (?_ : Calls _ _ _ _ fun e w' => e = .returned (.tuple #[.int .i64 (R.to : Int), .bool R.ok]) ∧ Sn w' B g A cap L D K s R.notes R.evs ∧ Below B w w') hRP
  clear hR hRP
  go_enter Try.func35, Try.ntmps35
  go_wp2_with fail
  refine HRD.out.mono ?_
  rintro e1 w1 ⟨rfl, hb1⟩
  have HS1 := Lib.hid (HH.out.on hb1 HB.out)
  have HB1 := Lib.hid (Nat.le_trans HB.out hb1.size)
  have HW1 := Lib.hid (hb1.mono HB.out)
  have HBW := Lib.hid HB.out
  clear hb1 HRD HB HH c0 c1 c2 c3
  go_upto_if 51 with fail
  refine wp_cut_mask kInn (fun _ W => Sn W B g A cap L D K s (N ++ nn) E ∧ Below B w W) ?_ ?_
  · intro K' HK'
    by_cases her : er = 0
    · have e3 := HNN.out.1 her
      subst her
      subst e3
      clear HNN
      go_wp2_with fail
      refine HK'.out _ _ rfl ⟨?_, HW1.out⟩
      rw [List.append_nil]
      exact HS1.out
    · have hpl := HNN.out.2.2 her
      have e3 := HNN.out.2.1 her
      subst hpl
      subst e3
      clear HNN
      go_wp2_with fail
      refine (ref_note w1 B g A cap L D K s N E pn er HS1.out HB1.out HN.out).mono ?_
      rintro e2 w2 ⟨rfl, hs2, hw2⟩
      have HS2 := Lib.hid hs2
      have HW2 := Lib.hid (HW1.out.trans hw2)
      clear hs2 hw2 HS1 HW1
      go_wp2_with fail
      exact HK'.out _ _ rfl ⟨HS2.out, HW2.out⟩
  intro t w3 hR
  obtain ⟨hs3, hw3⟩ := hR
  dsimp only [mask, kInn, Nat.reduceAdd]
  have hB3 := Nat.le_trans HBW.out hw3.size
  obtain ⟨v0, v1, v2, v3⟩ := hs3.cells
  obtain ⟨vA, vE, vV, hV⟩ := hs3
  have u6 : w3.cell? ⟨g, 6, none⟩ = some vV := hV.cells.2.2.2.2.2.2.1
  obtain ⟨A', n', c', w4, hr, h6, h7, hs4, hw4⟩ := ev_add hV hB3 (by have := HLN.out (); omega) ⟨1, 6, W, q, 0, dp, b1⟩
  have e2 : (AEv.cells ⟨1, 6, W, q, 0, dp, b1⟩).toArray = #[.int .i64 1, .int .i64 6, .int .i64 W, .int .i64 (dp : Int), .int .i64 ((b : Int) - 1), .int .u64 q, .int .u8 0] := by simp [AEv.cells, HB1'.out]
  rw [e2] at hr
  clear e2
  have HR := Lib.hid hr
  have HS4 := Lib.hid hs4
  have HW4 := Lib.hid (hw3.trans hw4)
  clear hr hs4 hw4 hV hw3 hB3 HS1 HW1 HB1 HNN
  have HZ := ev_zero
  unfold ev0 at HZ
  go_wp2_with ((with_reducible refine is_append 44 rfl ?_); (with_reducible refine wpList_append_run rfl rfl HR.out ?_ ?_ ?_); (· rfl); (· rfl))
  have hmi : ManyI L it (a + 1) 1 (N ++ nn) (E ++ [⟨1, 6, W, q, 0, dp, b1⟩]) b R := by
    have h1 := HM0.out ()
    have h2 := HLN.out ()
    have h3 := HLB.out ()
    have h4 := HRR.out
    exact ⟨h3.1, h3.2, by rw [List.length_append]; omega, by rw [List.length_append, List.length_singleton]; omega, by rw [h4], by rw [h4], by rw [h4], by rw [h4]⟩
  refine wp_loop_mask kMany (fun n t W' => ∃ (i a' : Nat) (N' : List Note) (E' : List AEv), n + i = 1 ∧ t 20 = .int .u64 (i : Int) ∧ t 1 = .int .i64 (a' : Int) ∧ ManyI L it (a + 1) n N' E' a' R ∧ Sn W' B g A cap L D K s N' E' ∧ B ≤ W'.heap.size ∧ Below B w W') (1) ⟨0, b, N ++ nn, E ++ [⟨1, 6, W, q, 0, dp, b1⟩], Nat.add_zero _, rfl, rfl, hmi, HS4.out, Nat.le_trans HBW.out HW4.out.size, HW4.out⟩ ?_
  intro n t5 wr hrel K5 HK5
  dsimp only [mask, kMany, Nat.reduceAdd]
  obtain ⟨i, a', N', E', hni, e20, e1, hmi, hs, hB, hw⟩ := hrel
  rw [e20, e1]
  clear e20 e1
  cases n with
  | zero =>
    have hlt : ¬ (i : Int) < 1 := by omega
    have HS := Lib.hid hs
    have HW := Lib.hid hw
    obtain ⟨g1, g2, g3, g4⟩ := hmi.none
    have HG := Lib.hid (And.intro g1 (And.intro g2 (And.intro g3 g4)))
    clear hmi hs hB hw hni g1 g2 g3 g4
    go_wp2_with fail
    refine bodyPost_ret (results_tmp2 rfl _ _ _) rfl ?_
    obtain ⟨g1, g2, g3, g4⟩ := HG.out
    exact ⟨by rw [g3, g4]; rfl, by rw [← g1, ← g2]; exact HS.out, HW.out⟩
  | succ n =>
    have hlt : (i : Int) < 1 := by omega
    have hwr : IntKind.u64.wrap ((i : Int) + 1) = (i : Int) + 1 := IntWalk.u64_in _ (by omega)
    have HS := Lib.hid hs
    have HW := Lib.hid hw
    have HMI := Lib.hid hmi
    have hi6 := HI.out a' wr N' E' hmi.lo hmi.hi hs hB hmi.nb hmi.eb
    unfold ScP at hi6
    have hbi := HBD.out a' hmi.lo hmi.hi
    have eit : it a' = item a' (dp + 1) false := by rw [HEQ.out]
    rw [← eit] at hi6
    clear eit
    have HI6 := Lib.hid hi6
    have HBI := Lib.hid hbi
    have HBR := Lib.hid hB
    clear hi6 hbi hmi hs hB hw
    go_wp2_with fail
    refine HI6.out.mono ?_
    rintro e6 w6 ⟨rfl, hs6, hw6⟩
    have HS6 := Lib.hid hs6
    have HW6 := Lib.hid hw6
    clear hs6 hw6
    cases ho : (it a').ok with
    | true =>
      have HO := Lib.hid ho
      clear ho
      go_wp2_with fail
      exact HK5.out _ _ n (Nat.lt_succ_self n) rfl ⟨i + 1, (it a').to, _, _, by omega, rfl, rfl, HMI.out.next HBI.out HO.out, HS6.out, Nat.le_trans HBR.out HW6.out.size, HW.out.trans HW6.out⟩
    | false =>
      have HO := Lib.hid ho
      clear ho
      go_wp2_with fail
      refine bodyPost_ret (results_tmp2 rfl _ _ _) rfl ?_
      obtain ⟨g1, g2, g3, g4⟩ := HMI.out.stop HO.out
      exact ⟨by rw [← g3, g4]; rfl, by rw [← g1, ← g2]; exact HS6.out, HW.out.trans HW6.out⟩
end Go.Proofs.Ytchhbcmkhbfpoaa

/- Package plain: the item of right bytes, as a plain function. -/
namespace Go.Proofs.Ytchhbcmkhbfpoaa

theorem pad_cut2 (l : List Int) (n : Nat) (h : n ≤ l.length) : pad l n = l.take n := by
  apply List.ext_getElem
  · simp [pad, h]
  · intro i h1 h2
    have : i < n := by simpa [pad] using h1
    simp [pad, List.getD, show i < l.length by omega]
/-- A head that is right: its form; what follows plays no part. -/
theorem hread_fine {L : List Int} (hb : ByteL L) (he : (hread L).e = 0) : 0 < L.length ∧ 1 ≤ (hread L).many ∧ ((hread L).width = 0 ∨ (hread L).width = 1 ∨ (hread L).width = 2 ∧ (hread L).arg < 65536 ∨ (hread L).width = 4 ∧ (hread L).arg < 4294967296 ∨ (hread L).width = 8) ∧ ∀ M, hread (L ++ M) = hread L := by
  by_cases h0 : L.length = 0
  · rw [hread_nil h0] at he; cases he
  have hp : 0 < L.length := by omega
  have hg : ∀ M, (L ++ M).getD 0 0 = L.getD 0 0 := fun M => by
    rw [List.getD_eq_getElem?_getD, List.getD_eq_getElem?_getD, List.getElem?_append_left hp]
  have hpM : ∀ M : List Int, 0 < (L ++ M).length := fun M => by rw [List.length_append]; omega
  by_cases h28 : 28 ≤ L.getD 0 0 % 32
  · rw [hread_bad hp h28] at he
    have h1 := hbad_ne (m := L.getD 0 0 / 32) h28
    have he : hbad (L.getD 0 0 / 32) (L.getD 0 0 % 32) = 0 := he
    omega
  by_cases h24 : L.getD 0 0 % 32 < 24
  · rw [hread_small hp h24]
    refine ⟨hp, Int.le_refl 1, .inl rfl, fun M => ?_⟩
    rw [hread_small (hpM M) (by rw [hg]; exact h24), hg]
  have h24' : 24 ≤ L.getD 0 0 % 32 := by omega
  have h28' : L.getD 0 0 % 32 < 28 := by omega
  by_cases hl : (L.length : Int) ≤ hwid (L.getD 0 0 % 32)
  · rw [hread_cut hp h24' h28' hl] at he; cases he
  by_cases hs : L.getD 0 0 / 32 = 7 ∧ hwid (L.getD 0 0 % 32) = 1 ∧ harg L (hwid (L.getD 0 0 % 32)) < 32
  · rw [hread_simple hp h24' h28' hl hs] at he; cases he
  have hW := hwid_of _ h24' h28'
  have ha : ∀ M, harg (L ++ M) (hwid (L.getD 0 0 % 32)) = harg L (hwid (L.getD 0 0 % 32)) := fun M => by
    unfold harg
    have h1 : (hwid (L.getD 0 0 % 32)).toNat ≤ (L.drop 1).length := by rw [List.length_drop]; omega
    have h2 : (hwid (L.getD 0 0 % 32)).toNat ≤ ((L ++ M).drop 1).length := by rw [List.length_drop, List.length_append]; omega
    rw [pad_cut2 _ _ h1, pad_cut2 _ _ h2, List.drop_append_of_le_length (by omega), List.take_append_of_le_length h1]
  have hbl := big_lt (L.drop 1) (fun c hc => hb c (List.mem_of_mem_drop hc)) (hwid (L.getD 0 0 % 32)).toNat
  rw [hread_whole hp h24' h28' hl hs]
  refine ⟨hp, ?_, ?_, fun M => ?_⟩
  · show 1 ≤ 1 + hwid (L.getD 0 0 % 32)
    omega
  · show hwid _ = 0 ∨ hwid _ = 1 ∨ hwid _ = 2 ∧ harg L _ < 65536 ∨ hwid _ = 4 ∧ harg L _ < 4294967296 ∨ hwid _ = 8
    unfold harg
    rcases hW with ⟨_, h⟩ | ⟨_, h⟩ | ⟨_, h⟩ | ⟨_, h⟩
    · exact .inr (.inl h)
    · rw [h] at hbl ⊢; exact .inr (.inr (.inl ⟨rfl, by simpa using hbl⟩))
    · rw [h] at hbl ⊢; exact .inr (.inr (.inr (.inl ⟨rfl, by simpa using hbl⟩)))
    · exact .inr (.inr (.inr (.inr h)))
  · rw [hread_whole (hpM M) (by rw [hg]; exact h24') (by rw [hg]; exact h28') (by rw [hg, List.length_append]; omega) (by rw [hg, ha]; exact hs), hg, ha]
/-- The double of bits of some width. -/
def WideW (W : Int) (x z : Nat) : Prop := (W = 2 ∧ Wide 5 10 1050 x z) ∨ (W = 4 ∧ Wide 8 23 925 x z) ∨ (W = 8 ∧ Wide 11 52 0 x z)
theorem wideW_fun {W : Int} {x z z' : Nat} (a : WideW W x z) (b : WideW W x z') : z = z' := by
  rcases a with ⟨h, a⟩ | ⟨h, a⟩ | ⟨h, a⟩ <;> rcases b with ⟨h', b⟩ | ⟨h', b⟩ | ⟨h', b⟩ <;> first | omega | exact wide_fun .half a b | exact wide_fun .single a b | exact wide_fun .double a b
open Classical in
noncomputable def widN (W a : Int) : Int := if h : ∃ z : Nat, WideW W a.toNat z then ((Classical.choose h : Nat) : Int) else 0
theorem widN_eq {W : Int} {x z : Nat} (h : WideW W x z) : widN W x = z := by
  unfold widN
  have hx : ∃ z : Nat, WideW W ((x : Int)).toNat z := ⟨z, h⟩
  rw [dif_pos hx]
  exact congrArg (fun n : Nat => (n : Int)) (wideW_fun (Classical.choose_spec hx) h)
def prsMany (item : Nat → Option (It × Nat)) : Nat → Nat → Option (List It × Nat)
  | 0, a => some ([], a)
  | n + 1, a => match item a with
    | none => none
    | some (x, e) => match prsMany item n e with
      | none => none
      | some (l, e') => some (x :: l, e')
def manyOf (m g : Int) : Nat := if m = 4 then g.toNat else if m = 5 then 2 * g.toNat else 1
/-- What a head and what follows make. -/
noncomputable def prsBody (B : List Int) (item : Nat → Option (It × Nat)) (m W g : Int) (a : Nat) : Option (It × Nat) :=
  if m = 2 ∨ m = 3 then (if a + g.toNat ≤ B.length then some (.mk m 0 (strOfNums (slice B a (a + g.toNat))) [], a + g.toNat) else none)
  else if m = 4 ∨ m = 5 ∨ m = 6 then (match prsMany item (manyOf m g) a with
    | none => none
    | some (l, e) => some (.mk m (if m = 6 then g else 0) ⟨#[]⟩ l, e))
  else if m = 7 ∧ 1 < W then some (.mk 8 (widN W g) ⟨#[]⟩ [], a)
  else some (.mk m g ⟨#[]⟩ [], a)
/-- The item that begins at a place of right bytes, and where it ends. -/
noncomputable def prs (B : List Int) : Nat → Nat → Option (It × Nat)
  | 0, _ => none
  | f + 1, a => if a < B.length ∧ (hread (B.drop a)).e = 0 then prsBody B (prs B f) (hread (B.drop a)).major (hread (B.drop a)).width (hread (B.drop a)).arg (a + (hread (B.drop a)).many.toNat) else none
section
variable {B : List Int}
theorem prsMany_ok {item : Nat → Option (It × Nat)} {sc : Nat → Sc} (lim : Nat) (hb : ∀ a, lim ≤ a → a ≤ B.length → BdI B a (sc a)) (hi : ∀ a, lim ≤ a → a ≤ B.length → (sc a).ok = true → (sc a).notes = [] → ∃ x, item a = some (x, (sc a).to)) (n : Nat) : ∀ a, lim ≤ a → a ≤ B.length → (scMany sc n a).ok = true → (scMany sc n a).notes = [] → ∃ l, prsMany item n a = some (l, (scMany sc n a).to) := by
  induction n with
  | zero => intro a _ _ _ _; exact ⟨[], rfl⟩
  | succ n ih =>
    intro a hl ha hok hn
    unfold scMany at hok hn ⊢
    by_cases ho : (sc a).ok = true
    · rw [if_pos ho] at hok hn ⊢
      dsimp only at hok hn ⊢
      obtain ⟨n1, n2⟩ := List.append_eq_nil_iff.1 hn
      obtain ⟨x, hx⟩ := hi a hl ha ho n1
      have hbd := hb a hl ha
      obtain ⟨l, hl'⟩ := ih (sc a).to (Nat.le_trans hl hbd.lo) hbd.hi hok n2
      exact ⟨x :: l, by unfold prsMany; rw [hx]; dsimp only; rw [hl']⟩
    · rw [if_neg ho] at hok
      exact absurd hok ho
theorem prsPairs_ok {item : Nat → Option (It × Nat)} {ik iv : Nat → Sc} (lim : Nat) (hbk : ∀ a, lim ≤ a → a ≤ B.length → BdI B a (ik a)) (hbv : ∀ a, lim ≤ a → a ≤ B.length → BdI B a (iv a)) (hk : ∀ a, lim ≤ a → a ≤ B.length → (ik a).ok = true → (ik a).notes = [] → ∃ x, item a = some (x, (ik a).to)) (hv : ∀ a, lim ≤ a → a ≤ B.length → (iv a).ok = true → (iv a).notes = [] → ∃ x, item a = some (x, (iv a).to)) (n : Nat) :
    ∀ fst last a, lim ≤ a → a ≤ B.length → (scPairs B ik iv n fst last a).ok = true → (scPairs B ik iv n fst last a).notes = [] → ∃ l, prsMany item (2 * n) a = some (l, (scPairs B ik iv n fst last a).to) := by
  induction n with
  | zero => intro _ _ a _ _ _ _; exact ⟨[], rfl⟩
  | succ n ih =>
    intro fst last a hl ha hok hn
    unfold scPairs scPair at hok hn ⊢
    dsimp only at hok hn ⊢
    by_cases ho : (ik a).ok = true
    · rw [if_pos ho] at hok hn ⊢
      have h1 := hbk a hl ha
      by_cases hv' : (iv (ik a).to).ok = true
      · rw [if_pos hv'] at hok hn ⊢
        dsimp only at hok hn ⊢
        obtain ⟨n1, n2⟩ := List.append_eq_nil_iff.1 hn
        obtain ⟨_, n3⟩ := List.append_eq_nil_iff.1 n2
        obtain ⟨n4, n5⟩ := List.append_eq_nil_iff.1 n3
        have hl2 := Nat.le_trans hl h1.lo
        have h2 := hbv (ik a).to hl2 h1.hi
        obtain ⟨x, hx⟩ := hk a hl ha ho n1
        obtain ⟨y, hy⟩ := hv (ik a).to hl2 h1.hi hv' n4
        obtain ⟨l, hl'⟩ := ih false (slice B a (ik a).to) (iv (ik a).to).to (Nat.le_trans hl2 h2.lo) h2.hi hok n5
        refine ⟨x :: y :: l, ?_⟩
        rw [show 2 * (n + 1) = 2 * n + 1 + 1 by omega]
        unfold prsMany
        rw [hx]
        dsimp only
        unfold prsMany
        rw [hy]
        dsimp only
        rw [hl']
      · rw [if_neg hv'] at hok
        cases hok
    · rw [if_neg ho] at hok
      exact absurd hok ho
/-- What the scan lets through is an item. -/
theorem prs_scan (D K : Nat) (hb : ByteL B) (f : Nat) : ∀ a d key, a ≤ B.length → B.length - a < f → (scItem B D K f a d key).ok = true → (scItem B D K f a d key).notes = [] → ∃ x, prs B f a = some (x, (scItem B D K f a d key).to) := by
  induction f with
  | zero => intro a d key _ h; omega
  | succ f ih =>
    intro a d key ha hf hok hn
    unfold scItem at hok hn ⊢
    dsimp only at hok hn ⊢
    obtain ⟨_, n1⟩ := List.append_eq_nil_iff.1 hn
    obtain ⟨n2, _⟩ := List.append_eq_nil_iff.1 n1
    clear hn n1
    unfold scInner at hok n2 ⊢
    dsimp only at hok n2 ⊢
    by_cases h1 : B.length ≤ a ∨ (hread (B.drop a)).e = 9
    · rw [if_pos h1] at hok; cases hok
    rw [if_neg h1] at hok n2 ⊢
    by_cases h2 : (hread (B.drop a)).many = 0
    · rw [if_pos h2] at hok; cases hok
    rw [if_neg h2] at hok n2 ⊢
    dsimp only at hok n2 ⊢
    obtain ⟨n3, n4⟩ := List.append_eq_nil_iff.1 n2
    have he : (hread (B.drop a)).e = 0 := by
      apply Classical.byContradiction
      intro h
      rw [if_neg h] at n3
      cases n3
    have hal : a < B.length := by omega
    have hfine := hread_fine (L := B.drop a) (fun c hc => hb c (List.mem_of_mem_drop hc)) he
    have hmn := hread_many (B.drop a)
    rw [List.length_drop] at hmn
    have hm1 := hfine.2.1
    have hlim : ∀ x, a + (hread (B.drop a)).many.toNat ≤ x → x ≤ B.length → ∀ d key, BdI B x (scItem B D K f x d key) := fun x h h' d key => bd_item D K f x d key h' (by omega)
    have hih : ∀ x, a + (hread (B.drop a)).many.toNat ≤ x → x ≤ B.length → ∀ d key, (scItem B D K f x d key).ok = true → (scItem B D K f x d key).notes = [] → ∃ y, prs B f x = some (y, (scItem B D K f x d key).to) := fun x h h' d key => ih x d key h' (by omega)
    unfold prs
    rw [if_pos ⟨hal, he⟩]
    generalize hread (B.drop a) = r at *
    unfold scBody at hok n4 ⊢
    unfold prsBody
    by_cases m2 : r.major = 2 ∨ r.major = 3
    · rw [if_pos m2] at hok n4 ⊢
      rw [if_pos m2]
      dsimp only at hok n4 ⊢
      have hq : r.arg ≤ ((B.length - (a + r.many.toNat) : Nat) : Int) := of_decide_eq_true hok
      rw [decide_eq_true hq]
      rw [if_pos (by omega), if_pos rfl]
      exact ⟨_, rfl⟩
    rw [if_neg m2] at hok n4 ⊢
    rw [if_neg m2]
    by_cases m4 : r.major = 4 ∨ r.major = 6
    · rw [if_pos m4] at hok n4 ⊢
      rw [if_pos (by omega)]
      obtain ⟨l, hl⟩ := prsMany_ok (B := B) (item := prs B f) (a + r.many.toNat) (fun x h h' => hlim x h h' _ _) (fun x h h' => hih x h h' _ _) _ (a + r.many.toNat) (Nat.le_refl _) (by omega) hok n4
      have e : manyOf r.major r.arg = (if r.major = 6 then 1 else r.arg.toNat) := by
        unfold manyOf
        rcases m4 with h | h
        · rw [if_pos h, if_neg (by omega)]
        · rw [if_neg (by omega), if_neg (by omega), if_pos h]
      rw [e, hl]
      exact ⟨_, rfl⟩
    rw [if_neg m4] at hok n4 ⊢
    by_cases m5 : r.major = 5
    · rw [if_pos m5] at hok n4 ⊢
      rw [if_pos (by omega)]
      obtain ⟨l, hl⟩ := prsPairs_ok (B := B) (item := prs B f) (a + r.many.toNat) (fun x h h' => hlim x h h' _ _) (fun x h h' => hlim x h h' _ _) (fun x h h' => hih x h h' _ _) (fun x h h' => hih x h h' _ _) _ true [] (a + r.many.toNat) (Nat.le_refl _) (by omega) hok n4
      have e : manyOf r.major r.arg = 2 * r.arg.toNat := by
        unfold manyOf
        rw [if_neg (by omega), if_pos m5]
      rw [e, hl]
      exact ⟨_, rfl⟩
    rw [if_neg m5] at hok n4 ⊢
    rw [if_neg (by omega)]
    dsimp only
    split
    · exact ⟨_, rfl⟩
    · exact ⟨_, rfl⟩
/-- Where an item ends, how great it is. -/
theorem prsMany_bd {item : Nat → Option (It × Nat)} (hi : ∀ a x e, item a = some (x, e) → a < e ∧ e ≤ B.length ∧ x.count ≤ e - a) (n : Nat) : ∀ a l e, a ≤ B.length → prsMany item n a = some (l, e) → a ≤ e ∧ e ≤ B.length ∧ l.length = n ∧ countL l ≤ e - a := by
  induction n with
  | zero =>
    intro a l e ha h
    injection h with h
    injection h with h1 h2
    subst h1 h2
    exact ⟨Nat.le_refl _, ha, rfl, by simp [countL]⟩
  | succ n ih =>
    intro a l e ha h
    unfold prsMany at h
    split at h
    · cases h
    · next x e1 hx =>
      split at h
      · cases h
      · next l' e' hl =>
        injection h with h
        injection h with h1 h2
        subst h1 h2
        obtain ⟨q1, q2, q3⟩ := hi a x e1 hx
        obtain ⟨p1, p2, p3, p4⟩ := ih e1 l' e' q2 hl
        refine ⟨by omega, p2, by simp [p3], ?_⟩
        show x.count + countL l' ≤ _
        omega
theorem prs_bd (hb : ByteL B) (f : Nat) : ∀ a x e, prs B f a = some (x, e) → a < e ∧ e ≤ B.length ∧ x.count ≤ e - a := by
  induction f with
  | zero => intro a x e h; cases h
  | succ f ih =>
    intro a x e h
    unfold prs at h
    split at h
    · next hc =>
      obtain ⟨hal, he⟩ := hc
      have hfine := hread_fine (L := B.drop a) (fun c hc => hb c (List.mem_of_mem_drop hc)) he
      have hmn := hread_many (B.drop a)
      rw [List.length_drop] at hmn
      have hm1 := hfine.2.1
      generalize hread (B.drop a) = r at *
      unfold prsBody at h
      split at h
      · split at h
        · injection h with h
          injection h with h1 h2
          subst h1 h2
          refine ⟨by omega, by assumption, ?_⟩
          show countL [] + 1 ≤ _
          simp [countL]; omega
        · cases h
      · split at h
        · split at h
          · cases h
          · next l e' hl =>
            injection h with h
            injection h with h1 h2
            subst h1 h2
            obtain ⟨p1, p2, p3, p4⟩ := prsMany_bd ih _ _ _ _ (by omega) hl
            refine ⟨by omega, p2, ?_⟩
            rw [It.count_eq]
            show countL l + 1 ≤ _
            omega
        · split at h
          · injection h with h
            injection h with h1 h2
            subst h1 h2
            refine ⟨by omega, by omega, ?_⟩
            rw [It.count_eq]
            show countL [] + 1 ≤ _
            simp [countL]; omega
          · injection h with h
            injection h with h1 h2
            subst h1 h2
            refine ⟨by omega, by omega, ?_⟩
            rw [It.count_eq]
            show countL [] + 1 ≤ _
            simp [countL]; omega
    · cases h
/-- What follows plays no part. -/
theorem prsMany_more {item item' : Nat → Option (It × Nat)} (hi : ∀ a r, item a = some r → item' a = some r) (n : Nat) : ∀ a r, prsMany item n a = some r → prsMany item' n a = some r := by
  induction n with
  | zero => intro a r h; exact h
  | succ n ih =>
    intro a r h
    unfold prsMany at h ⊢
    split at h
    · cases h
    · next x e1 hx =>
      rw [hi a _ hx]
      dsimp only
      split at h
      · cases h
      · next l' e' hl => rw [ih e1 _ hl]; exact h
theorem prs_more (hb : ByteL B) (M : List Int) (f : Nat) : ∀ f' a r, f ≤ f' → prs B f a = some r → prs (B ++ M) f' a = some r := by
  induction f with
  | zero => intro f' a r _ h; cases h
  | succ f ih =>
    intro f' a r hf h
    obtain ⟨f'', rfl⟩ : ∃ k, f' = k + 1 := ⟨f' - 1, by omega⟩
    unfold prs at h ⊢
    split at h
    · next hc =>
      obtain ⟨hal, he⟩ := hc
      have hfine := hread_fine (L := B.drop a) (fun c hc => hb c (List.mem_of_mem_drop hc)) he
      have hd : (B ++ M).drop a = B.drop a ++ M := by rw [List.drop_append_of_le_length (by omega)]
      rw [hd, hfine.2.2.2 M]
      rw [if_pos ⟨by rw [List.length_append]; omega, he⟩]
      generalize hread (B.drop a) = q at *
      unfold prsBody at h ⊢
      split at h
      · next h2 =>
        rw [if_pos h2]
        split at h
        · next h3 =>
          rw [if_pos (by rw [List.length_append]; omega)]
          rw [← h]
          congr 3
          unfold slice
          rw [List.drop_append_of_le_length (by omega), List.take_append_of_le_length (by rw [List.length_drop]; omega)]
        · cases h
      · next h2 =>
        rw [if_neg h2]
        split at h
        · next h3 =>
          rw [if_pos h3]
          split at h
          · cases h
          · next l e' hl =>
            rw [prsMany_more (fun a r hr => ih f'' a r (by omega) hr) _ _ _ hl]
            exact h
        · next h3 =>
          rw [if_neg h3]
          exact h
    · cases h
end
end Go.Proofs.Ytchhbcmkhbfpoaa
