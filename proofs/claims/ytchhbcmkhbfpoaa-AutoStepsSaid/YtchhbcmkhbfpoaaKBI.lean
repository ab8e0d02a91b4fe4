/- The document's scan (layer 14): a text's bytes. -/
import Derived.Test.YtchhbcmkhbfpoaaKBH
import Derived.OwnWalk
import Derived.Deep.RegionLaw
import Derived.Test.YtchhbcmkhbfpoaaRows
import Derived.Test.YtchhbcmkhbfpoaaKAB
import Derived.Test.YtchhbcmkhbfpoaaKAA
import Derived.Laws.BytesArg
import Derived.Test.YtchhbcmkhbfpoaaKBG
import Derived.Test.YtchhbcmkhbfpoaaKAO
import Derived.RegionTactic
import Derived.Test.YtchhbcmkhbfpoaaKAS
namespace Go.Proofs.Ytchhbcmkhbfpoaa
open Go.RowKit

def kText : List Bool := [false, false, false, false, false, false, false, false, false, false, false, false, false, false, false, false, true, false, false, false, false, false, false, false, false, false, false, false, false, false, false, false, false, false, false, false, false, false, false, false, false, false, false, false, false, false, false, false, false, false, false, false, false, false, false, false, false, false, false, false, false, false, false, false, false, false, false, false, false, false, false, false, false, false, false, false, false, false, false, false, false, false, false, false, false, false, false, false, false, false, false, false, false, false, false, false, false, true, true, true, true, true, true, true, true, true, true, true, true, true, true, true, true, true, true, true, true, true, true, true, true, true, true]
theorem bevs_snoc (d : Nat) (x : Int) (l : List Int) : ∀ p, bevs d (l ++ [x]) p = bevs d l p ++ [⟨2, 0, 0, 0, x, d, p + l.length⟩] := by
  induction l with
  | nil => intro p; rfl
  | cons c r ih =>
    intro p
    show _ :: bevs d (r ++ [x]) (p + 1) = (_ :: bevs d r (p + 1)) ++ _
    rw [ih, List.cons_append, List.length_cons, show p + 1 + r.length = p + (r.length + 1) by omega]
theorem slice_snoc {L : List Int} {b i : Nat} (h : b ≤ i) (hi : i < L.length) : slice L b (i + 1) = slice L b i ++ [L.getD i 0] := by
  rw [← slice_add h (Nat.le_succ i), slice_cons (Nat.lt_succ_self i) hi, slice_nil]
theorem bevs_step {L : List Int} {d b i : Nat} (h : b ≤ i) (hi : i < L.length) : bevs d (slice L b (i + 1)) b = bevs d (slice L b i) b ++ [⟨2, 0, 0, 0, L.getD i 0, d, i⟩] := by
  rw [slice_snoc h hi, bevs_snoc, length_slice (by omega), show b + (i - b) = i by omega]
/-- An event that lies in a block is told. -/
theorem ev_addB {w : World} {B g : Nat} {A : Option Addr} {cap : Nat} {L : List Int} {d k s : Int} {N : List Note} {E : List AEv} {vA vE vV : Value} (h1 : SnV w B g A cap L d k s N E vA vE vV) (hB : B ≤ w.heap.size) (hE : E.length ≤ 1000000000) (e : AEv) (gx : Nat) (hb : Blk w gx 48 e.cells.toArray) :
    ∃ A' n' c' w', (Builtin.append_ #[44, 44] 44 #[vV, .slice (some ⟨gx, 0, none⟩) 1 1]).run Try.prog w = .ok (.slice A' n' c') w' ∧ w'.cell? ⟨g, 6, none⟩ = some vV ∧ w'.frozen? ⟨g, 6, none⟩ = false ∧
      Sn (w'.setCell ⟨g, 6, none⟩ (.slice A' n' c')) B g A cap L d k s N (E ++ [e]) ∧ Below B w (w'.setCell ⟨g, 6, none⟩ (.slice A' n' c')) := by
  obtain ⟨v', w', r1, r2, r3, r4, _⟩ := oc_append (P := Try.prog) (t := 44) (ty := 44) (e := 48) (s := 7) (bytes := 56) (z := ev0) (m := 1) (c := 1) (news := e.cells) (a := ⟨gx, 0, none⟩) (by kernel_rfl) ev_info rfl (by decide) (by decide) h1.ev rfl
    (fun j u hj => by
      have : (⟨gx, 0, none⟩ : Addr).add j = ⟨gx, j, none⟩ := by simp [Addr.add]; exact fun h => h.symm
      rw [this, hb.cell, List.getElem?_toArray]; exact hj) (ev_one e) (by omega) hB
  obtain ⟨A', c', rfl, _⟩ := oc_form r2
  have hbl := blk_grown h1.blk h1.ev (by decide) r4
  have hge := h1.ge
  refine ⟨A', _, c', w', r1, hbl.cell 6, hbl.free 6, ⟨vA, vE, _, ⟨hbl.put 6 _, own_far (h1.at_.kept r4 (own_diff h1.at_ h1.ev (by decide))) hbl (by decide), own_far (h1.er.kept r4 (own_diff h1.er h1.ev (by decide))) hbl (by decide), ?_, h1.ne, ?_, hge⟩⟩, r3.setCell hge _⟩
  · have e1 : evCells (E ++ [e]) = evCells E ++ e.cells := by rw [evCells_append]; simp [evCells]
    rw [List.length_append, List.length_singleton, e1]
    exact own_far r2 hbl (by decide)
  · exact (h1.rd.below r3).keep fun q hq => ((Below.refl B w').setCell (p := ⟨g, 6, none⟩) hge _).cell hq
/-- A text's bytes: where the scan stands. -/
structure TextI (w0 w : World) (B g : Nat) (A : Option Addr) (cap : Nat) (L : List Int) (D K : Nat) (s : Int) (N : List Note) (E : List AEv) (dp b i : Nat) : Prop where
  lo : b ≤ i
  sn : Sn w B g A cap L D K s N (E ++ bevs dp (slice L b i) b)
  hb : B ≤ w.heap.size
  bel : Below B w0 w
set_option maxRecDepth 100000 in
set_option maxHeartbeats 4000000 in
theorem inner_bytes (B g : Nat) (A : Option Addr) (cap : Nat) (L : List Int) (D K : Nat) (s : Int) (a dp : Nat) (w : World) (N : List Note) (E : List AEv) (h : Sn w B g A cap L D K s N E) (hB : B ≤ w.heap.size) (hb : ByteL L) (hl : L.length ≤ 300) (ha : a < L.length) (hd : dp ≤ 1000) (hn : N.length ≤ 900000) (he : E.length ≤ 900000) (n : Nat) (hc : (hread (L.drop a)).e ≠ 9 ∧ (hread (L.drop a)).many ≠ 0) (hm : (hread (L.drop a)).major = 2) (hq : (hread (L.drop a)).arg = (n : Int)) (hbn : a + (hread (L.drop a)).many.toNat + n ≤ L.length) :
    InnAt B g A cap L D K s a dp w N E ⟨hnn (hread (L.drop a)) a ++ [], ⟨1, (hread (L.drop a)).major, (hread (L.drop a)).width, (hread (L.drop a)).arg, 0, dp, a + (hread (L.drop a)).many.toNat - 1⟩ :: bevs dp (slice L (a + (hread (L.drop a)).many.toNat) (a + (hread (L.drop a)).many.toNat + n)) (a + (hread (L.drop a)).many.toNat), a + (hread (L.drop a)).many.toNat + n, true⟩ := by
  obtain ⟨ab, ao, hA, -, -⟩ := (show Rd w B .u8 A L from let ⟨_, _, _, h⟩ := h; h.rd).get ha
  subst hA
  obtain ⟨c0, c1, c2, c3⟩ := h.cells
  have HH := Lib.hid h
  have HB := Lib.hid hB
  have i1 : (a : Int) < L.length := by omega
  have i2 : (dp : Int) ≤ 1000 := by omega
  have i3 : (L.length : Int) ≤ 300 := by omega
  have i4 : (0 : Int) ≤ dp := by omega
  have i5 : (0 : Int) ≤ a := by omega
  have HRD := Lib.hid (ref_head h hB hb hl a (by omega))
  have hmn := hread_many (L.drop a)
  rw [List.length_drop] at hmn
  have hpl : (hread (L.drop a)).e ≠ 0 → (if (hread (L.drop a)).place < 0 then -1 else (hread (L.drop a)).place + (a : Int)) = ((a + (hread (L.drop a)).place.toNat : Nat) : Int) := fun h0 => by
    have := hread_placed h0
    rw [if_neg (by omega)]
    omega
  have hmj := hread_major (L.drop a) (fun c hc => hb c (List.mem_of_mem_drop hc))
  have hag := hread_arg (L.drop a)
  unfold hreadV at HRD
  generalize hread (L.drop a) = r at *
  obtain ⟨m, W, q, z, p, er⟩ := r
  dsimp only at HRD hmn hpl hmj hag hc hm hq hbn ⊢
  generalize (if p < 0 then -1 else p + (a : Int)) = pl at *
  have i6 : (a : Int) + z ≤ L.length := by omega
  have i7 : (0 : Int) ≤ z := hmn.1
  have hlN : N.length ≤ 1000000000 := by omega
  have HN := Lib.hid hlN
  clear h hB hb hl ha hd hmn hlN hn
  obtain ⟨hc1, hc2⟩ := hc
  have hnn0 : er = 0 → hnn ⟨m, W, q, z, p, er⟩ a = [] := fun h => if_pos h
  have hnn1 : er ≠ 0 → hnn ⟨m, W, q, z, p, er⟩ a = [(a + p.toNat, er)] := fun h => if_neg h
  have hln : (hnn ⟨m, W, q, z, p, er⟩ a).length ≤ 1 := by unfold hnn; split <;> simp
  generalize hnn ⟨m, W, q, z, p, er⟩ a = nn at *
  generalize a + p.toNat = pn at *
  have hab : (a : Int) + z = ((a + z.toNat : Nat) : Int) := by omega
  have hb1' : ((a + z.toNat - 1 : Nat) : Int) = ((a + z.toNat : Nat) : Int) - 1 := by omega
  have i8 : (a : Int) < ((a + z.toNat : Nat) : Int) := by omega
  have i9 : ((a + z.toNat : Nat) : Int) ≤ L.length := by omega
  have hz : z ≠ 0 := hc2
  have HB1' := Lib.hid hb1'
  have HLN := Lib.hid (fun _ : Unit => And.intro hln (And.intro HN.out he))
  have HNN := Lib.hid (And.intro hnn0 (And.intro hnn1 hpl))
  generalize a + z.toNat - 1 = b1 at *
  generalize a + z.toNat = b at *
  have h9 : (er == 9) = false := by simp [hc1]
  clear hb1' hln hnn0 hnn1 hpl he hc2
  subst hm
  unfold InnAt ScP
  dsimp only
  subst hq
  have hbi : (b : Int) + n ≤ L.length := by omega
  have hle : (n : Int) ≤ (L.length : Int) - b := by omega
  have HBN := Lib.hid (fun _ : Unit => hbn)
  have hn3 : (n : Int) ≤ 300 := by omega
  have hwn : IntKind.u64.wrap (n : Int) = n := IntWalk.u64_in _ (by omega)
  clear hbn hmj
  go_enter Try.func35, Try.ntmps35
  go_wp2_with fail
  refine HRD.out.mono ?_
  rintro e1 w1 ⟨rfl, hb1⟩
  have HS1 := Lib.hid (HH.out.on hb1 HB.out)
  have HB1 := Lib.hid (Nat.le_trans HB.out hb1.size)
  have HW1 := Lib.hid (hb1.mono HB.out)
  have HBW := Lib.hid HB.out
  clear hb1 HRD HB HH c0 c1 c2 c3
  go_upto_if 51 with fail
  refine wp_cut_mask kInn (fun _ W => Sn W B g (some ⟨ab, ao, none⟩) cap L D K s (N ++ nn) E ∧ Below B w W) ?_ ?_
  · intro K' HK'
    by_cases her : er = 0
    · have e3 := HNN.out.1 her
      subst her
      subst e3
      clear HNN
      go_wp2_with fail
      refine HK'.out _ _ rfl ⟨?_, HW1.out⟩
      rw [List.append_nil]
      exact HS1.out
    · have hpl := HNN.out.2.2 her
      have e3 := HNN.out.2.1 her
      subst hpl
      subst e3
      clear HNN
      go_wp2_with fail
      refine (ref_note w1 B g (some ⟨ab, ao, none⟩) cap L D K s N E pn er HS1.out HB1.out HN.out).mono ?_
      rintro e2 w2 ⟨rfl, hs2, hw2⟩
      have HS2 := Lib.hid hs2
      have HW2 := Lib.hid (HW1.out.trans hw2)
      clear hs2 hw2 HS1 HW1
      go_wp2_with fail
      exact HK'.out _ _ rfl ⟨HS2.out, HW2.out⟩
  intro t w3 hR
  obtain ⟨hs3, hw3⟩ := hR
  dsimp only [mask, kInn, Nat.reduceAdd]
  have hB3 := Nat.le_trans HBW.out hw3.size
  obtain ⟨v0, v1, v2, v3⟩ := hs3.cells
  obtain ⟨vA, vE, vV, hV⟩ := hs3
  have u6 : w3.cell? ⟨g, 6, none⟩ = some vV := hV.cells.2.2.2.2.2.2.1
  obtain ⟨A', n', c', w4, hr, h6, h7, hs4, hw4⟩ := ev_add hV hB3 (by have := HLN.out (); omega) ⟨1, 2, W, (n : Int), 0, dp, b1⟩
  have e2 : (AEv.cells ⟨1, 2, W, (n : Int), 0, dp, b1⟩).toArray = #[.int .i64 1, .int .i64 2, .int .i64 W, .int .i64 (dp : Int), .int .i64 ((b : Int) - 1), .int .u64 (n : Int), .int .u8 0] := by simp [AEv.cells, HB1'.out]
  rw [e2] at hr
  clear e2
  have HR := Lib.hid hr
  have HS4 := Lib.hid hs4
  have HW4 := Lib.hid (hw3.trans hw4)
  clear hr hs4 hw4 hV hw3 hB3 HS1 HW1 HB1 HNN
  have HZ := ev_zero
  unfold ev0 at HZ
  go_upto_region 15 with ((with_reducible refine is_append 44 rfl ?_); (with_reducible refine wpList_append_run rfl rfl HR.out ?_ ?_ ?_); (· rfl); (· rfl))
  generalize w4.setCell ⟨g, 6, none⟩ (.slice A' n' c') = w5 at *
  clear HR h6 h7 HZ v0 v1 v2 v3 u6
  obtain ⟨c0, -, -, -⟩ := HS4.out.cells
  go_wp2_with fail
  have hE0 := HLN.out ()
  have HSN := Lib.hid (fun _ : Unit => (hE0.2.2 : E.length ≤ 900000))
  clear hE0
  refine wp_loop_mask kText (fun m t W' => ∃ i : Nat, m + i = b + n ∧ t 16 = .int .i64 (i : Int) ∧ TextI w W' B g (some ⟨ab, ao, none⟩) cap L D K s (N ++ nn) (E ++ [⟨1, 2, W, (n : Int), 0, dp, b1⟩]) dp b i) n ⟨b, Nat.add_comm _ _, rfl, Nat.le_refl _, by rw [slice_nil]; show Sn _ _ _ _ _ _ _ _ _ _ (_ ++ []); rw [List.append_nil]; exact HS4.out, Nat.le_trans HBW.out HW4.out.size, HW4.out⟩ ?_
  intro m t6 wr hrel K6 HK6
  dsimp only [mask, kText, Nat.reduceAdd]
  obtain ⟨i, hmi, e16, hT⟩ := hrel
  rw [e16]
  clear e16 HS4 HW4
  cases m with
  | zero =>
    obtain rfl : i = b + n := by omega
    have HT := Lib.hid hT
    have hlt : ¬ ((b + n : Nat) : Int) < (b : Int) + n := by omega
    clear hT hmi
    go_wp2_with fail
    refine bodyPost_ret (results_tmp2 rfl _ _ _) rfl ?_
    exact ⟨rfl, by simpa using HT.out.sn, HT.out.bel⟩
  | succ m =>
    have hlt : (i : Int) < (b : Int) + n := by omega
    have hbn2 := HBN.out ()
    have hil : i < L.length := by omega
    have hii : (i : Int) < L.length := by omega
    have hi0 : (0 : Int) ≤ i := by omega
    have hwi : IntKind.i64.wrap ((i : Int) + 1) = (i : Int) + 1 := IntWalk.i64_in _ (by omega)
    obtain ⟨vA', vE', vV', hV⟩ := hT.sn
    have hbW : Below wr.heap.size wr (wr.alloc (.cells #[.int .i64 2, .int .i64 0, .int .i64 0, .int .i64 (dp : Int), .int .i64 (i : Int), .int .u64 0, .int .u8 (L.getD i 0)] 48)).drew := below_drawn (below_alloc _ _)
    have hV2 := hV.on hbW hT.hb
    have hgo := ev_addB hV2 (Nat.le_trans hT.hb hbW.size) (by have := HSN.out (); rw [List.length_append, List.length_append, List.length_singleton, length_bevs, length_slice (by omega)]; omega) ⟨2, 0, 0, 0, L.getD i 0, dp, i⟩ wr.heap.size (Blk.fresh wr 48 (AEv.cells ⟨2, 0, 0, 0, L.getD i 0, dp, i⟩).toArray).drew
    rw [List.append_assoc, ← bevs_step hT.lo hil] at hgo
    have hbW2 := hbW.mono hT.hb
    have hV1 := hV.on (below_alloc wr (.cells #[.int .i64 2, .int .i64 0, .int .i64 0, .int .i64 (dp : Int), .int .i64 (i : Int), .int .u64 0, .int .u8 (L.getD i 0)] 48)) hT.hb
    obtain ⟨ab', ao', he1, -, hcb⟩ := hV.rd.get hil
    injection he1 with he1
    injection he1 with he1 he2
    subst he1
    subst he2
    obtain ⟨ab', ao', he1, -, hcb1⟩ := hV1.rd.get hil
    injection he1 with he1
    injection he1 with he1 he2
    subst he1
    subst he2
    obtain ⟨k0, -, -, -, -, -, k6, -⟩ := hV.cells
    obtain ⟨j0, -, -, -, -, -, j6, -⟩ := hV1.cells
    obtain ⟨ab', ao', he1, -, hcb2⟩ := hV2.rd.get hil
    injection he1 with he1
    injection he1 with he1 he2
    subst he1
    subst he2
    obtain ⟨l0, -, -, -, -, -, l6, -⟩ := hV2.cells
    obtain ⟨A9, n9, c9, w9, hr9, h69, h79, hs9, hw9⟩ := hgo
    have HN9 : Hid (TextI w (w9.setCell ⟨g, 6, none⟩ (.slice A9 n9 c9)) B g (some ⟨ab, ao, none⟩) cap L D K s (N ++ nn) (E ++ [⟨1, 2, W, (n : Int), 0, dp, b1⟩]) dp b (i + 1)) := ⟨Nat.le_succ_of_le hT.lo, hs9, Nat.le_trans (Nat.le_trans hT.hb hbW2.size) hw9.size, (hT.bel.trans hbW2).trans hw9⟩
    have HR := Lib.hid hr9
    have HMI := Lib.hid (fun _ : Unit => hmi)
    have HZ := ev_zero
    unfold ev0 at HZ
    clear hr9 hs9 hw9 hT hV hV1 hV2 hbW hbW2 hmi hil hbn2
    generalize L.getD i 0 = x at *
    go_wp2_with fail
    go_region_law (refine step_append_run rfl rfl HR.out rfl rfl ?_)
    go_wp2_with fail
    all_goals exact HK6.out _ _ m (Nat.lt_succ_self m) rfl ⟨i + 1, by have := HMI.out (); omega, rfl, HN9.out⟩
end Go.Proofs.Ytchhbcmkhbfpoaa

/- The document's scan (layer 14): a text that isn't whole. -/
namespace Go.Proofs.Ytchhbcmkhbfpoaa
open Go.RowKit

set_option maxRecDepth 100000 in
set_option maxHeartbeats 4000000 in
theorem inner_bytesShort (B g : Nat) (A : Option Addr) (cap : Nat) (L : List Int) (D K : Nat) (s : Int) (a dp : Nat) (w : World) (N : List Note) (E : List AEv) (h : Sn w B g A cap L D K s N E) (hB : B ≤ w.heap.size) (hb : ByteL L) (hl : L.length ≤ 300) (ha : a < L.length) (hd : dp ≤ 1000) (hn : N.length ≤ 900000) (he : E.length ≤ 900000) (n : Nat) (hc : (hread (L.drop a)).e ≠ 9 ∧ (hread (L.drop a)).many ≠ 0) (hm : (hread (L.drop a)).major = 2) (hq : (n : Int) < (hread (L.drop a)).arg) (hbn : a + (hread (L.drop a)).many.toNat + n = L.length) :
    InnAt B g A cap L D K s a dp w N E ⟨hnn (hread (L.drop a)) a ++ [], ⟨1, (hread (L.drop a)).major, (hread (L.drop a)).width, (hread (L.drop a)).arg, 0, dp, a + (hread (L.drop a)).many.toNat - 1⟩ :: bevs dp (slice L (a + (hread (L.drop a)).many.toNat) (a + (hread (L.drop a)).many.toNat + n)) (a + (hread (L.drop a)).many.toNat), a + (hread (L.drop a)).many.toNat + n, false⟩ := by
  obtain ⟨ab, ao, hA, -, -⟩ := (show Rd w B .u8 A L from let ⟨_, _, _, h⟩ := h; h.rd).get ha
  subst hA
  obtain ⟨c0, c1, c2, c3⟩ := h.cells
  have HH := Lib.hid h
  have HB := Lib.hid hB
  have i1 : (a : Int) < L.length := by omega
  have i2 : (dp : Int) ≤ 1000 := by omega
  have i3 : (L.length : Int) ≤ 300 := by omega
  have i4 : (0 : Int) ≤ dp := by omega
  have i5 : (0 : Int) ≤ a := by omega
  have HRD := Lib.hid (ref_head h hB hb hl a (by omega))
  have hmn := hread_many (L.drop a)
  rw [List.length_drop] at hmn
  have hpl : (hread (L.drop a)).e ≠ 0 → (if (hread (L.drop a)).place < 0 then -1 else (hread (L.drop a)).place + (a : Int)) = ((a + (hread (L.drop a)).place.toNat : Nat) : Int) := fun h0 => by
    have := hread_placed h0
    rw [if_neg (by omega)]
    omega
  have hmj := hread_major (L.drop a) (fun c hc => hb c (List.mem_of_mem_drop hc))
  have hag := hread_arg (L.drop a)
  unfold hreadV at HRD
  generalize hread (L.drop a) = r at *
  obtain ⟨m, W, q, z, p, er⟩ := r
  dsimp only at HRD hmn hpl hmj hag hc hm hq hbn ⊢
  generalize (if p < 0 then -1 else p + (a : Int)) = pl at *
  have i6 : (a : Int) + z ≤ L.length := by omega
  have i7 : (0 : Int) ≤ z := hmn.1
  have hlN : N.length ≤ 1000000000 := by omega
  have HN := Lib.hid hlN
  clear h hB hb hl ha hd hmn hlN hn
  obtain ⟨hc1, hc2⟩ := hc
  have hnn0 : er = 0 → hnn ⟨m, W, q, z, p, er⟩ a = [] := fun h => if_pos h
  have hnn1 : er ≠ 0 → hnn ⟨m, W, q, z, p, er⟩ a = [(a + p.toNat, er)] := fun h => if_neg h
  have hln : (hnn ⟨m, W, q, z, p, er⟩ a).length ≤ 1 := by unfold hnn; split <;> simp
  generalize hnn ⟨m, W, q, z, p, er⟩ a = nn at *
  generalize a + p.toNat = pn at *
  have hab : (a : Int) + z = ((a + z.toNat : Nat) : Int) := by omega
  have hb1' : ((a + z.toNat - 1 : Nat) : Int) = ((a + z.toNat : Nat) : Int) - 1 := by omega
  have i8 : (a : Int) < ((a + z.toNat : Nat) : Int) := by omega
  have i9 : ((a + z.toNat : Nat) : Int) ≤ L.length := by omega
  have hz : z ≠ 0 := hc2
  have HB1' := Lib.hid hb1'
  have HLN := Lib.hid (fun _ : Unit => And.intro hln (And.intro HN.out he))
  have HNN := Lib.hid (And.intro hnn0 (And.intro hnn1 hpl))
  generalize a + z.toNat - 1 = b1 at *
  generalize a + z.toNat = b at *
  have h9 : (er == 9) = false := by simp [hc1]
  clear hb1' hln hnn0 hnn1 hpl he hc2
  subst hm
  unfold InnAt ScP
  dsimp only
  have hbi : (b : Int) + n ≤ L.length := by omega
  have hlb : (L.length : Int) - b = n := by omega
  have hqn : decide (q ≤ (n : Int)) = false := decide_eq_false (by omega)
  have HBN := Lib.hid (fun _ : Unit => hbn)
  have hn3 : (n : Int) ≤ 300 := by omega
  have hwn : IntKind.u64.wrap (n : Int) = n := IntWalk.u64_in _ (by omega)
  clear hbn hmj
  go_enter Try.func35, Try.ntmps35
  go_wp2_with fail
  refine HRD.out.mono ?_
  rintro e1 w1 ⟨rfl, hb1⟩
  have HS1 := Lib.hid (HH.out.on hb1 HB.out)
  have HB1 := Lib.hid (Nat.le_trans HB.out hb1.size)
  have HW1 := Lib.hid (hb1.mono HB.out)
  have HBW := Lib.hid HB.out
  clear hb1 HRD HB HH c0 c1 c2 c3
  go_upto_if 51 with fail
  refine wp_cut_mask kInn (fun _ W => Sn W B g (some ⟨ab, ao, none⟩) cap L D K s (N ++ nn) E ∧ Below B w W) ?_ ?_
  · intro K' HK'
    by_cases her : er = 0
    · have e3 := HNN.out.1 her
      subst her
      subst e3
      clear HNN
      go_wp2_with fail
      refine HK'.out _ _ rfl ⟨?_, HW1.out⟩
      rw [List.append_nil]
      exact HS1.out
    · have hpl := HNN.out.2.2 her
      have e3 := HNN.out.2.1 her
      subst hpl
      subst e3
      clear HNN
      go_wp2_with fail
      refine (ref_note w1 B g (some ⟨ab, ao, none⟩) cap L D K s N E pn er HS1.out HB1.out HN.out).mono ?_
      rintro e2 w2 ⟨rfl, hs2, hw2⟩
      have HS2 := Lib.hid hs2
      have HW2 := Lib.hid (HW1.out.trans hw2)
      clear hs2 hw2 HS1 HW1
      go_wp2_with fail
      exact HK'.out _ _ rfl ⟨HS2.out, HW2.out⟩
  intro t w3 hR
  obtain ⟨hs3, hw3⟩ := hR
  dsimp only [mask, kInn, Nat.reduceAdd]
  have hB3 := Nat.le_trans HBW.out hw3.size
  obtain ⟨v0, v1, v2, v3⟩ := hs3.cells
  obtain ⟨vA, vE, vV, hV⟩ := hs3
  have u6 : w3.cell? ⟨g, 6, none⟩ = some vV := hV.cells.2.2.2.2.2.2.1
  obtain ⟨A', n', c', w4, hr, h6, h7, hs4, hw4⟩ := ev_add hV hB3 (by have := HLN.out (); omega) ⟨1, 2, W, q, 0, dp, b1⟩
  have e2 : (AEv.cells ⟨1, 2, W, q, 0, dp, b1⟩).toArray = #[.int .i64 1, .int .i64 2, .int .i64 W, .int .i64 (dp : Int), .int .i64 ((b : Int) - 1), .int .u64 q, .int .u8 0] := by simp [AEv.cells, HB1'.out]
  rw [e2] at hr
  clear e2
  have HR := Lib.hid hr
  have HS4 := Lib.hid hs4
  have HW4 := Lib.hid (hw3.trans hw4)
  clear hr hs4 hw4 hV hw3 hB3 HS1 HW1 HB1 HNN
  have HZ := ev_zero
  unfold ev0 at HZ
  go_upto_region 15 with ((with_reducible refine is_append 44 rfl ?_); (with_reducible refine wpList_append_run rfl rfl HR.out ?_ ?_ ?_); (· rfl); (· rfl))
  generalize w4.setCell ⟨g, 6, none⟩ (.slice A' n' c') = w5 at *
  clear HR h6 h7 HZ v0 v1 v2 v3 u6
  obtain ⟨c0, -, -, -⟩ := HS4.out.cells
  go_wp2_with fail
  have hE0 := HLN.out ()
  have HSN := Lib.hid (fun _ : Unit => (hE0.2.2 : E.length ≤ 900000))
  clear hE0
  refine wp_loop_mask kText (fun m t W' => ∃ i : Nat, m + i = b + n ∧ t 16 = .int .i64 (i : Int) ∧ TextI w W' B g (some ⟨ab, ao, none⟩) cap L D K s (N ++ nn) (E ++ [⟨1, 2, W, q, 0, dp, b1⟩]) dp b i) n ⟨b, Nat.add_comm _ _, rfl, Nat.le_refl _, by rw [slice_nil]; show Sn _ _ _ _ _ _ _ _ _ _ (_ ++ []); rw [List.append_nil]; exact HS4.out, Nat.le_trans HBW.out HW4.out.size, HW4.out⟩ ?_
  intro m t6 wr hrel K6 HK6
  dsimp only [mask, kText, Nat.reduceAdd]
  obtain ⟨i, hmi, e16, hT⟩ := hrel
  rw [e16]
  clear e16 HS4 HW4
  cases m with
  | zero =>
    obtain rfl : i = b + n := by omega
    have HT := Lib.hid hT
    have hlt : ¬ ((b + n : Nat) : Int) < (b : Int) + n := by omega
    clear hT hmi
    go_wp2_with fail
    refine bodyPost_ret (results_tmp2 rfl _ _ _) rfl ?_
    exact ⟨rfl, by simpa using HT.out.sn, HT.out.bel⟩
  | succ m =>
    have hlt : (i : Int) < (b : Int) + n := by omega
    have hbn2 := HBN.out ()
    have hil : i < L.length := by omega
    have hii : (i : Int) < L.length := by omega
    have hi0 : (0 : Int) ≤ i := by omega
    have hwi : IntKind.i64.wrap ((i : Int) + 1) = (i : Int) + 1 := IntWalk.i64_in _ (by omega)
    obtain ⟨vA', vE', vV', hV⟩ := hT.sn
    have hbW : Below wr.heap.size wr (wr.alloc (.cells #[.int .i64 2, .int .i64 0, .int .i64 0, .int .i64 (dp : Int), .int .i64 (i : Int), .int .u64 0, .int .u8 (L.getD i 0)] 48)).drew := below_drawn (below_alloc _ _)
    have hV2 := hV.on hbW hT.hb
    have hgo := ev_addB hV2 (Nat.le_trans hT.hb hbW.size) (by have := HSN.out (); rw [List.length_append, List.length_append, List.length_singleton, length_bevs, length_slice (by omega)]; omega) ⟨2, 0, 0, 0, L.getD i 0, dp, i⟩ wr.heap.size (Blk.fresh wr 48 (AEv.cells ⟨2, 0, 0, 0, L.getD i 0, dp, i⟩).toArray).drew
    rw [List.append_assoc, ← bevs_step hT.lo hil] at hgo
    have hbW2 := hbW.mono hT.hb
    have hV1 := hV.on (below_alloc wr (.cells #[.int .i64 2, .int .i64 0, .int .i64 0, .int .i64 (dp : Int), .int .i64 (i : Int), .int .u64 0, .int .u8 (L.getD i 0)] 48)) hT.hb
    obtain ⟨ab', ao', he1, -, hcb⟩ := hV.rd.get hil
    injection he1 with he1
    injection he1 with he1 he2
    subst he1
    subst he2
    obtain ⟨ab', ao', he1, -, hcb1⟩ := hV1.rd.get hil
    injection he1 with he1
    injection he1 with he1 he2
    subst he1
    subst he2
    obtain ⟨k0, -, -, -, -, -, k6, -⟩ := hV.cells
    obtain ⟨j0, -, -, -, -, -, j6, -⟩ := hV1.cells
    obtain ⟨ab', ao', he1, -, hcb2⟩ := hV2.rd.get hil
    injection he1 with he1
    injection he1 with he1 he2
    subst he1
    subst he2
    obtain ⟨l0, -, -, -, -, -, l6, -⟩ := hV2.cells
    obtain ⟨A9, n9, c9, w9, hr9, h69, h79, hs9, hw9⟩ := hgo
    have HN9 : Hid (TextI w (w9.setCell ⟨g, 6, none⟩ (.slice A9 n9 c9)) B g (some ⟨ab, ao, none⟩) cap L D K s (N ++ nn) (E ++ [⟨1, 2, W, q, 0, dp, b1⟩]) dp b (i + 1)) := ⟨Nat.le_succ_of_le hT.lo, hs9, Nat.le_trans (Nat.le_trans hT.hb hbW2.size) hw9.size, (hT.bel.trans hbW2).trans hw9⟩
    have HR := Lib.hid hr9
    have HMI := Lib.hid (fun _ : Unit => hmi)
    have HZ := ev_zero
    unfold ev0 at HZ
    clear hr9 hs9 hw9 hT hV hV1 hV2 hbW hbW2 hmi hil hbn2
    generalize L.getD i 0 = x at *
    go_wp2_with fail
    go_region_law (refine step_append_run rfl rfl HR.out rfl rfl ?_)
    go_wp2_with fail
    all_goals exact HK6.out _ _ m (Nat.lt_succ_self m) rfl ⟨i + 1, by have := HMI.out (); omega, rfl, HN9.out⟩
end Go.Proofs.Ytchhbcmkhbfpoaa

/- The contract of what holds two lists of bytes against each other. -/
namespace Go.Proofs.Ytchhbcmkhbfpoaa
open Go.RowKit

theorem run_str {P : Program} {src e dst : TypeId} (hs : P.underlying src = some (.slice e)) (he : P.underlying e = some (.int .u8)) (hd : P.underlying dst = some .string) {w : World} {B : Nat} {A : Option Addr} {zs : List Int} (cap : Nat) (hr : Rd w B .u8 A zs) :
    (convert src dst (.slice A zs.length cap)).run P w = .ok (.string (strOfNums zs)) w := by
  by_cases h0 : 0 < zs.length
  · obtain ⟨b, o, rfl, _, hc⟩ := hr h0
    exact run_convert_bytes_arg w src e hs he b o zs.length cap zs rfl hc dst hd
  · have hz : zs = [] := List.eq_nil_of_length_eq_zero (by omega)
    subst hz
    rw [run_convert_bytes_string w src dst e A _ _ hs he hd]
    cases A with
    | none => rfl
    | some a => exact run_bytesToString w a 0 cap [] (by simpa using run_loadCells_list (P := P) w a [] (by simp))
theorem str_list (zs : List Int) : (strOfNums zs).toList = zs.map (fun n => UInt8.ofNat n.toNat) := by rw [ByteArray.toList_eq, strOfNums_data]
theorem bytes_inj {a b : List Int} (ha : ByteL a) (hb : ByteL b) (h1 : a.map (fun n => UInt8.ofNat n.toNat) = b.map (fun n => UInt8.ofNat n.toNat)) : a = b := by
  have hl : a.length = b.length := by simpa using congrArg List.length h1
  apply List.ext_getElem hl
  intro i i1 i2
  have h2 := congrArg (fun l => l[i]?) h1
  simp only [List.getElem?_map, List.getElem?_eq_getElem i1, List.getElem?_eq_getElem i2, Option.map_some, Option.some.injEq] at h2
  have a1 := ha _ (List.getElem_mem i1)
  have b1 := hb _ (List.getElem_mem i2)
  have h3 := congrArg UInt8.toNat h2
  simp only [UInt8.toNat_ofNat'] at h3
  omega
end Go.Proofs.Ytchhbcmkhbfpoaa

/- The document's scan (layer 14): a part of the bytes as a string. -/
namespace Go.Proofs.Ytchhbcmkhbfpoaa
open Go.RowKit

theorem run_mid {P : Program} {t elem : TypeId} (hu : P.underlying t = some (.slice elem)) (hs : (P.info? elem).map (·.size) = some 1) (w : World) (A : Option Addr) (len cap l h : Nat) (hl : l ≤ h) (hh : h ≤ cap) :
    (Instr.sliceAt t (.slice A len cap) (some (.int .i64 l)) (some (.int .i64 h)) none).run P w = .ok (.slice (cutA A l cap) (h - l) (cap - l)) w := by
  have hz : ∀ w, (sizeOf elem).run P w = .ok 1 w := fun w => by
    cases hq : P.info? elem with
    | none => simp [hq] at hs
    | some i =>
      have : i.size = 1 := by simpa [hq] using hs
      simp [sizeOf, typeInfo, hq, this]
  have he : P.elem t = elem := by simp [Program.elem, hu]
  rw [run_sliceAt_slice w t _ _ _ _ (by rw [he]; exact hu), run_slice_lh w t A len cap (by rw [he]; exact hu) .i64 .i64 l h (by omega) (by omega) (by omega), he, hz]
  simp [sliced, cutA]
theorem rd_first {w : World} {B : Nat} {k : IntKind} {A : Option Addr} {zs : List Int} (h : Rd w B k A zs) (m : Nat) : Rd w B k A (zs.take m) := fun hn => by
  rw [List.length_take] at hn
  obtain ⟨b, o, hA, hb, hc⟩ := h (by omega)
  refine ⟨b, o, hA, hb, fun i hi => ?_⟩
  rw [List.length_take] at hi
  rw [hc i (by omega), List.getD_eq_getElem?_getD, List.getD_eq_getElem?_getD, List.getElem?_take, if_pos (by omega)]
theorem rd_slice {w : World} {B : Nat} {k : IntKind} {A : Option Addr} {zs : List Int} (h : Rd w B k A zs) (l m cap : Nat) (hc : zs.length ≤ cap) : Rd w B k (cutA A l cap) (slice zs l m) := rd_first (h.cut l cap hc) (m - l)
/-- string(b[l:h]). -/
theorem run_part {w : World} {B : Nat} {A : Option Addr} {L : List Int} (hr : Rd w B .u8 A L) (cap l h : Nat) (hc : L.length ≤ cap) (hl : l ≤ h) (hh : h ≤ L.length) :
    (Instr.sliceAt 22 (.slice A L.length cap) (some (.int .i64 l)) (some (.int .i64 h)) none).run Try.prog w = .ok (.slice (cutA A l cap) (slice L l h).length (cap - l)) w ∧
    (convert 22 9 (.slice (cutA A l cap) (slice L l h).length (cap - l))).run Try.prog w = .ok (.string (strOfNums (slice L l h))) w :=
  ⟨by rw [length_slice hh]; exact run_mid (elem := 5) (by kernel_rfl) (by kernel_rfl) w A L.length cap l h hl (Nat.le_trans hh hc),
   run_str (P := Try.prog) (e := 5) (by kernel_rfl) (by kernel_rfl) (by kernel_rfl) (cap - l) (rd_slice hr l h cap hc)⟩
end Go.Proofs.Ytchhbcmkhbfpoaa

/- The document's answer for texts: sign by sign. -/
namespace Go.Proofs.Ytchhbcmkhbfpoaa
open Go.RowKit

/-- Is a place's byte one that follows? -/
def isF (s : ByteArray) (k : Nat) : Prop := k < s.size ∧ 128 ≤ sb s k ∧ sb s k ≤ 191
instance (s : ByteArray) (k : Nat) : Decidable (isF s k) := by unfold isF; exact inferInstance
/-- How many follow, of n, from a place on. -/
def ufol (s : ByteArray) (i : Nat) : Nat → Nat
  | 0 => 0
  | n + 1 => if isF s i then 1 + ufol s (i + 1) n else 0
theorem ufol_le (s : ByteArray) : ∀ (n i : Nat), ufol s i n ≤ n
  | 0, _ => Nat.le_refl _
  | n + 1, i => by
    unfold ufol
    split
    · have := ufol_le s n (i + 1); omega
    · omega
theorem ufol_at {s : ByteArray} : ∀ {k n i : Nat}, k ≤ n → (∀ j, j < k → isF s (i + j)) → (k = n ∨ ¬ isF s (i + k)) → ufol s i n = k
  | 0, 0, i, _, _, _ => rfl
  | 0, n + 1, i, _, _, h => by
    unfold ufol
    rw [if_neg (by
      rcases h with h | h
      · omega
      · exact h)]
  | k + 1, 0, _, h, _, _ => by omega
  | k + 1, n + 1, i, h, h1, h2 => by
    unfold ufol
    rw [if_pos (show isF s i from h1 0 (by omega)), ufol_at (k := k) (by omega) (fun j hj => by rw [show i + 1 + j = i + (j + 1) by omega]; exact h1 (j + 1) (by omega)) (by
      rcases h2 with h2 | h2
      · left; omega
      · right; rw [show i + 1 + k = i + (k + 1) by omega]; exact h2)]
    omega

set_option maxRecDepth 100000 in
theorem ref_follow (s : ByteArray) (hs : s.size ≤ 1000000000) (i n : Nat) (hi : i ≤ 1000000010) (hn : n ≤ 4) (w : World) :
    Calls Try.prog 75 #[.string s, .int .i64 i, .int .i64 n] w fun e w' => e = .returned (.int .i64 (ufol s i n)) ∧ w = w' := by
  have HI := fun (w : World) (k : Nat) (hk : k < s.size) (x : Int) (hx : x = k) => run_sb (P := Try.prog) Try.underlying9 w s k hk x hx
  go_enter Try.func75, Try.ntmps75
  go_wp2_with fail
  go_loop [7] (fun k => ∃ m : Nat, m ≤ n ∧ k = .int .i64 m ∧ ∀ j, j < m → isF s (i + j)) (fun k => n - (intOf k).toNat)
  case atStart => exact ⟨0, by omega, rfl, fun j hj => by omega⟩
  case round =>
    obtain ⟨m, hm, rfl, hf⟩ := hrel
    have HF := Lib.hid hf
    clear hf
    by_cases h1 : m < n
    · by_cases h2 : i + m < s.size
      · have hi' := HI w (i + m) h2 ((i : Int) + m) (by simp)
        clear HI
        by_cases h3 : 128 ≤ sb s (i + m)
        · by_cases h4 : sb s (i + m) ≤ 191
          · go_wp2_with fail
            go_round
            case rel => exact ⟨m + 1, by omega, by go_num, fun j hj => (by
              by_cases hjm : j < m
              · exact HF.out j hjm
              · rw [show j = m by omega]; exact ⟨h2, h3, h4⟩)⟩
            case measure => simp [intOf]; omega
          · have e := Lib.hid (ufol_at (s := s) (i := i) hm HF.out (Or.inr (fun hx => h4 hx.2.2)))
            go_wp2_with fail
            go_ret
            exact ⟨by rw [e.out]; rfl, rfl⟩
        · have e := Lib.hid (ufol_at (s := s) (i := i) hm HF.out (Or.inr (fun hx => h3 hx.2.1)))
          go_wp2_with fail
          go_ret
          exact ⟨by rw [e.out]; rfl, rfl⟩
      · have e := Lib.hid (ufol_at (s := s) (i := i) hm HF.out (Or.inr (fun hx => h2 hx.1)))
        have h2' : ¬ ((i : Int) + m < s.size) := by omega
        clear HI
        go_wp2_with fail
        go_ret
        exact ⟨by rw [e.out]; rfl, rfl⟩
    · have e := Lib.hid (ufol_at (s := s) (i := i) hm HF.out (Or.inl (by omega)))
      clear HI
      go_wp2_with fail
      go_ret
      exact ⟨by rw [e.out]; rfl, rfl⟩
end Go.Proofs.Ytchhbcmkhbfpoaa

/- The document's answer for texts: a sign. -/
namespace Go.Proofs.Ytchhbcmkhbfpoaa
open Go.RowKit
set_option maxRecDepth 100000

/-- A sign's first byte c: it has n bytes, the next one's bounds are lo, hi. -/
def Lead (c : Int) (n : Nat) (lo hi : Int) : Prop :=
  (n = 2 ∧ 194 ≤ c ∧ c ≤ 223 ∧ lo = 128 ∧ hi = 191) ∨ (n = 3 ∧ c = 224 ∧ lo = 160 ∧ hi = 191) ∨ (n = 3 ∧ c = 237 ∧ lo = 128 ∧ hi = 159) ∨ (n = 3 ∧ 225 ≤ c ∧ c ≤ 239 ∧ (c == 237) = false ∧ lo = 128 ∧ hi = 191) ∨
  (n = 4 ∧ c = 240 ∧ lo = 144 ∧ hi = 191) ∨ (n = 4 ∧ c = 244 ∧ lo = 128 ∧ hi = 143) ∨ (n = 4 ∧ 241 ≤ c ∧ c ≤ 243 ∧ lo = 128 ∧ hi = 191)
theorem lead_of {c : Int} {m : Nat} (h : umore c = some (m + 1)) : Lead c (m + 2) (ulo c) (uhi c) := by
  unfold Lead ulo uhi
  rcases umore_some h with ⟨h, r1, r2⟩ | ⟨h, r1, r2⟩ | ⟨h, r1, r2⟩ | ⟨h, r1⟩
  · have hm : m + 2 = 4 := by omega
    by_cases e1 : c = 240
    · subst e1; simp [hm]
    by_cases e2 : c = 244
    · subst e2; simp [hm]
    right; right; right; right; right; right
    rw [if_neg (by omega), if_neg e1, if_neg (by omega), if_neg e2]
    omega
  · have hm : m + 2 = 3 := by omega
    by_cases e1 : c = 224
    · subst e1; simp [hm]
    by_cases e2 : c = 237
    · subst e2; simp [hm]
    right; right; right; left
    rw [if_neg e1, if_neg (by omega), if_neg e2, if_neg (by omega), beq_eq_false_iff_ne]
    omega
  · have hm : m + 2 = 2 := by omega
    left
    rw [if_neg (by omega), if_neg (by omega), if_neg (by omega), if_neg (by omega)]
    omega
  · omega
set_option maxHeartbeats 1000000 in
theorem ref_sign_short (s : ByteArray) (hs : s.size ≤ 1000000000) (i n : Nat) (lo hi : Int) (hl : Lead (sb s i) n lo hi) (h0 : i < s.size) (h1 : s.size = i + 1) (w : World) :
    Calls Try.prog 57 #[.string s, .int .i64 i] w fun e w' => e = .returned (.tuple #[.int .i64 n, .int .i64 1]) ∧ w = w' := by
  have HI := fun (w : World) (k : Nat) (hk : k < s.size) (x : Int) (hx : x = k) => run_sb (P := Try.prog) Try.underlying9 w s k hk x hx
  have i0 := HI w i h0 i rfl
  have g1 : (s.size : Int) ≤ (i : Int) + 1 := by omega
  clear HI
  generalize sb s i = c at *
  rcases hl with ⟨rfl, r1, r2, rfl, rfl⟩ | ⟨rfl, rfl, rfl, rfl⟩ | ⟨rfl, rfl, rfl, rfl⟩ | ⟨rfl, r1, r2, r3, rfl, rfl⟩ | ⟨rfl, rfl, rfl, rfl⟩ | ⟨rfl, rfl, rfl, rfl⟩ | ⟨rfl, r1, r2, rfl, rfl⟩
  all_goals (
    go_enter Try.func57, Try.ntmps57
    go_wp2_with fail
    go_ret2
    exact ⟨rfl, rfl⟩)
set_option maxHeartbeats 2000000 in
theorem ref_sign_bad (s : ByteArray) (hs : s.size ≤ 1000000000) (i n : Nat) (lo hi : Int) (hl : Lead (sb s i) n lo hi) (h1 : i + 1 < s.size) (hb : sb s (i + 1) < lo ∨ hi < sb s (i + 1)) (w : World) :
    Calls Try.prog 57 #[.string s, .int .i64 i] w fun e w' => e = .returned (.tuple #[.int .i64 n, .int .i64 1]) ∧ w = w' := by
  have HI := fun (w : World) (k : Nat) (hk : k < s.size) (x : Int) (hx : x = k) => run_sb (P := Try.prog) Try.underlying9 w s k hk x hx
  have h0 : i < s.size := by omega
  have i0 := HI w i h0 i rfl
  have i1 := HI w (i + 1) h1 ((i : Int) + 1) (by simp)
  have g1 : (i : Int) + 1 < (s.size : Int) := by omega
  clear HI
  generalize sb s i = c at *
  generalize sb s (i + 1) = d at *
  by_cases hd : d < lo
  · clear hb
    rcases hl with ⟨rfl, r1, r2, rfl, rfl⟩ | ⟨rfl, rfl, rfl, rfl⟩ | ⟨rfl, rfl, rfl, rfl⟩ | ⟨rfl, r1, r2, r3, rfl, rfl⟩ | ⟨rfl, rfl, rfl, rfl⟩ | ⟨rfl, rfl, rfl, rfl⟩ | ⟨rfl, r1, r2, rfl, rfl⟩
    all_goals (
      go_enter Try.func57, Try.ntmps57
      go_wp2_with fail
      go_ret2
      exact ⟨rfl, rfl⟩)
  · have hd2 : hi < d := by omega
    clear hb
    rcases hl with ⟨rfl, r1, r2, rfl, rfl⟩ | ⟨rfl, rfl, rfl, rfl⟩ | ⟨rfl, rfl, rfl, rfl⟩ | ⟨rfl, r1, r2, r3, rfl, rfl⟩ | ⟨rfl, rfl, rfl, rfl⟩ | ⟨rfl, rfl, rfl, rfl⟩ | ⟨rfl, r1, r2, rfl, rfl⟩
    all_goals (
      go_enter Try.func57, Try.ntmps57
      go_wp2_with fail
      go_ret2
      exact ⟨rfl, rfl⟩)
set_option maxHeartbeats 2000000 in
theorem ref_sign_good (s : ByteArray) (hs : s.size ≤ 1000000000) (i n : Nat) (lo hi : Int) (hl : Lead (sb s i) n lo hi) (h1 : i + 1 < s.size) (hb : lo ≤ sb s (i + 1)) (hb' : sb s (i + 1) ≤ hi) (w : World) :
    Calls Try.prog 57 #[.string s, .int .i64 i] w fun e w' => e = .returned (.tuple #[.int .i64 n, .int .i64 (2 + ufol s (i + 2) (n - 2) : Nat)]) ∧ w = w' := by
  have HI := fun (w : World) (k : Nat) (hk : k < s.size) (x : Int) (hx : x = k) => run_sb (P := Try.prog) Try.underlying9 w s k hk x hx
  have h0 : i < s.size := by omega
  have i0 := HI w i h0 i rfl
  have i1 := HI w (i + 1) h1 ((i : Int) + 1) (by simp)
  have g1 : (i : Int) + 1 < (s.size : Int) := by omega
  have hn : 2 ≤ n ∧ n ≤ 4 := by unfold Lead at hl; omega
  have HF := Lib.hid (ref_follow s hs (i + 2) (n - 2) (by omega) (by omega))
  rw [show ((i + 2 : Nat) : Int) = (i : Int) + 2 by simp, show ((n - 2 : Nat) : Int) = (n : Int) - 2 by omega] at HF
  have hu := ufol_le s (n - 2) (i + 2)
  generalize ufol s (i + 2) (n - 2) = u at *
  have hu' : u ≤ 2 := by omega
  rw [show ((2 + u : Nat) : Int) = 2 + (u : Int) by simp]
  clear HI hu hn
  generalize sb s i = c at *
  generalize sb s (i + 1) = d at *
  rcases hl with ⟨rfl, r1, r2, rfl, rfl⟩ | ⟨rfl, rfl, rfl, rfl⟩ | ⟨rfl, rfl, rfl, rfl⟩ | ⟨rfl, r1, r2, r3, rfl, rfl⟩ | ⟨rfl, rfl, rfl, rfl⟩ | ⟨rfl, rfl, rfl, rfl⟩ | ⟨rfl, r1, r2, rfl, rfl⟩
  all_goals (
    simp only [Int.reduceSub, Int.cast_ofNat_Int] at HF
    go_enter Try.func57, Try.ntmps57
    go_wp2_with fail
    refine (HF.out w).mono ?_
    rintro e w' ⟨rfl, rfl⟩
    go_wp2_with fail
    go_ret2
    exact ⟨rfl, rfl⟩)
theorem ref_sign_one (s : ByteArray) (i : Nat) (h0 : i < s.size) (hm : umore (sb s i) = some 0) (w : World) :
    Calls Try.prog 57 #[.string s, .int .i64 i] w fun e w' => e = .returned (.tuple #[.int .i64 1, .int .i64 1]) ∧ w = w' := by
  have i0 := run_sb (P := Try.prog) Try.underlying9 w s i h0 i rfl
  have r1 : sb s i ≤ 127 := by have := umore_some hm; omega
  clear hm
  generalize sb s i = c at *
  go_enter Try.func57, Try.ntmps57
  go_wp2_with fail
  go_ret2
  exact ⟨rfl, rfl⟩
theorem ref_sign_none (s : ByteArray) (i : Nat) (h0 : i < s.size) (hm : umore (sb s i) = none) (w : World) :
    Calls Try.prog 57 #[.string s, .int .i64 i] w fun e w' => e = .returned (.tuple #[.int .i64 0, .int .i64 0]) ∧ w = w' := by
  have i0 := run_sb (P := Try.prog) Try.underlying9 w s i h0 i rfl
  obtain ⟨r1, r2, r3, r4⟩ := umore_none hm
  clear hm
  generalize sb s i = c at *
  go_enter Try.func57, Try.ntmps57
  go_wp2_with fail
  all_goals go_ret2
  all_goals exact ⟨rfl, rfl⟩
end Go.Proofs.Ytchhbcmkhbfpoaa
