/- The document's scan (layer 14): a text's bytes. -/
import Derived.Test.YtchhbcmkhbfpoaaKAS
import Derived.OwnWalk
import Derived.Deep.RegionLaw
import Derived.Test.YtchhbcmkhbfpoaaRows
import Derived.Test.YtchhbcmkhbfpoaaKAK
import Derived.Test.YtchhbcmkhbfpoaaKAA
import Derived.RegionTactic
namespace Go.Proofs.Ytchhbcmkhbfpoaa
open Go.RowKit

def kText : List Bool := [false, false, false, false, false, false, false, false, false, false, false, false, false, false, false, false, true, false, false, false, false, false, false, false, false, false, false, false, false, false, false, false, false, false, false, false, false, false, false, false, false, false, false, false, false, false, false, false, false, false, false, false, false, false, false, false, false, false, false, false, false, false, false, false, false, false, false, false, false, false, false, false, false, false, false, false, false, false, false, false, false, false, false, false, false, false, false, false, false, false, false, false, false, false, false, false, false, true, true, true, true, true, true, true, true, true, true, true, true, true, true, true, true, true, true, true, true, true, true, true, true, true, true]
theorem bevs_snoc (d : Nat) (x : Int) (l : List Int) : ∀ p, bevs d (l ++ [x]) p = bevs d l p ++ [⟨2, 0, 0, 0, x, d, p + l.length⟩] := by
  induction l with
  | nil => intro p; rfl
  | cons c r ih =>
    intro p
    show _ :: bevs d (r ++ [x]) (p + 1) = (_ :: bevs d r (p + 1)) ++ _
    rw [ih, List.cons_append, List.length_cons, show p + 1 + r.length = p + (r.length + 1) by omega]
theorem slice_snoc {L : List Int} {b i : Nat} (h : b ≤ i) (hi : i < L.length) : slice L b (i + 1) = slice L b i ++ [L.getD i 0] := by
  rw [← slice_add h (Nat.le_succ i), slice_cons (Nat.lt_succ_self i) hi, slice_nil]
theorem bevs_step {L : List Int} {d b i : Nat} (h : b ≤ i) (hi : i < L.length) : bevs d (slice L b (i + 1)) b = bevs d (slice L b i) b ++ [⟨2, 0, 0, 0, L.getD i 0, d, i⟩] := by
  rw [slice_snoc h hi, bevs_snoc, length_slice (by omega), show b + (i - b) = i by omega]
/-- An event that lies in a block is told. -/
theorem ev_addB {w : World} {B g : Nat} {A : Option Addr} {cap : Nat} {L : List Int} {d k s : Int} {N : List Note} {E : List AEv} {vA vE vV : Value} (h1 : SnV w B g A cap L d k s N E vA vE vV) (hB : B ≤ w.heap.size) (hE : E.length ≤ 1000000000) (e : AEv) (gx : Nat) (hb : Blk w gx 48 e.cells.toArray) :
    ∃ A' n' c' w', (Builtin.append_ #[44, 44] 44 #[vV, .slice (some ⟨gx, 0, none⟩) 1 1]).run Try.prog w = .ok (.slice A' n' c') w' ∧ w'.cell? ⟨g, 6, none⟩ = some vV ∧ w'.frozen? ⟨g, 6, none⟩ = false ∧
      Sn (w'.setCell ⟨g, 6, none⟩ (.slice A' n' c')) B g A cap L d k s N (E ++ [e]) ∧ Below B w (w'.setCell ⟨g, 6, none⟩ (.slice A' n' c')) := by
  obtain ⟨v', w', r1, r2, r3, r4, _⟩ := oc_append (P := Try.prog) (t := 44) (ty := 44) (e := 48) (s := 7) (bytes := 56) (z := ev0) (m := 1) (c := 1) (news := e.cells) (a := ⟨gx, 0, none⟩) (by kernel_rfl) ev_info rfl (by decide) (by decide) h1.ev rfl
    (fun j u hj => by
      have : (⟨gx, 0, none⟩ : Addr).add j = ⟨gx, j, none⟩ := by simp [Addr.add]; exact fun h => h.symm
      rw [this, hb.cell, List.getElem?_toArray]; exact hj) (ev_one e) (by omega) hB
  obtain ⟨A', c', rfl, _⟩ := oc_form r2
  have hbl := blk_grown h1.blk h1.ev (by decide) r4
  have hge := h1.ge
  refine ⟨A', _, c', w', r1, hbl.cell 6, hbl.free 6, ⟨vA, vE, _, ⟨hbl.put 6 _, own_far (h1.at_.kept r4 (own_diff h1.at_ h1.ev (by decide))) hbl (by decide), own_far (h1.er.kept r4 (own_diff h1.er h1.ev (by decide))) hbl (by decide), ?_, h1.ne, ?_, hge⟩⟩, r3.setCell hge _⟩
  · have e1 : evCells (E ++ [e]) = evCells E ++ e.cells := by rw [evCells_append]; simp [evCells]
    rw [List.length_append, List.length_singleton, e1]
    exact own_far r2 hbl (by decide)
  · exact (h1.rd.below r3).keep fun q hq => ((Below.refl B w').setCell (p := ⟨g, 6, none⟩) hge _).cell hq
/-- A text's bytes: where the scan stands. -/
structure TextI (w0 w : World) (B g : Nat) (A : Option Addr) (cap : Nat) (L : List Int) (D K : Nat) (s : Int) (N : List Note) (E : List AEv) (dp b i : Nat) : Prop where
  lo : b ≤ i
  sn : Sn w B g A cap L D K s N (E ++ bevs dp (slice L b i) b)
  hb : B ≤ w.heap.size
  bel : Below B w0 w
set_option maxRecDepth 100000 in
set_option maxHeartbeats 4000000 in
theorem inner_bytes (B g : Nat) (A : Option Addr) (cap : Nat) (L : List Int) (D K : Nat) (s : Int) (a dp : Nat) (w : World) (N : List Note) (E : List AEv) (h : Sn w B g A cap L D K s N E) (hB : B ≤ w.heap.size) (hb : ByteL L) (hl : L.length ≤ 300) (ha : a < L.length) (hd : dp ≤ 1000) (hn : N.length ≤ 900000) (he : E.length ≤ 900000) (n : Nat) (hc : (hread (L.drop a)).e ≠ 9 ∧ (hread (L.drop a)).many ≠ 0) (hm : (hread (L.drop a)).major = 2) (hq : (hread (L.drop a)).arg = (n : Int)) (hbn : a + (hread (L.drop a)).many.toNat + n ≤ L.length) :
    InnAt B g A cap L D K s a dp w N E ⟨hnn (hread (L.drop a)) a ++ [], ⟨1, (hread (L.drop a)).major, (hread (L.drop a)).width, (hread (L.drop a)).arg, 0, dp, a + (hread (L.drop a)).many.toNat - 1⟩ :: bevs dp (slice L (a + (hread (L.drop a)).many.toNat) (a + (hread (L.drop a)).many.toNat + n)) (a + (hread (L.drop a)).many.toNat), a + (hread (L.drop a)).many.toNat + n, true⟩ := by
  obtain ⟨ab, ao, hA, -, -⟩ := (show Rd w B .u8 A L from let ⟨_, _, _, h⟩ := h; h.rd).get ha
  subst hA
  obtain ⟨c0, c1, c2, c3⟩ := h.cells
  have HH := Lib.hid h
  have HB := Lib.hid hB
  have i1 : (a : Int) < L.length := by omega
  have i2 : (dp : Int) ≤ 1000 := by omega
  have i3 : (L.length : Int) ≤ 300 := by omega
  have i4 : (0 : Int) ≤ dp := by omega
  have i5 : (0 : Int) ≤ a := by omega
  have HRD := Lib.hid (ref_head h hB hb hl a (by omega))
  have hmn := hread_many (L.drop a)
  rw [List.length_drop] at hmn
  have hpl : (hread (L.drop a)).e ≠ 0 → (if (hread (L.drop a)).place < 0 then -1 else (hread (L.drop a)).place + (a : Int)) = ((a + (hread (L.drop a)).place.toNat : Nat) : Int) := fun h0 => by
    have := hread_placed h0
    rw [if_neg (by omega)]
    omega
  have hmj := hread_major (L.drop a) (fun c hc => hb c (List.mem_of_mem_drop hc))
  have hag := hread_arg (L.drop a)
  unfold hreadV at HRD
  generalize hread (L.drop a) = r at *
  obtain ⟨m, W, q, z, p, er⟩ := r
  dsimp only at HRD hmn hpl hmj hag hc hm hq hbn ⊢
  generalize (if p < 0 then -1 else p + (a : Int)) = pl at *
  have i6 : (a : Int) + z ≤ L.length := by omega
  have i7 : (0 : Int) ≤ z := hmn.1
  have hlN : N.length ≤ 1000000000 := by omega
  have HN := Lib.hid hlN
  clear h hB hb hl ha hd hmn hlN hn
  obtain ⟨hc1, hc2⟩ := hc
  have hnn0 : er = 0 → hnn ⟨m, W, q, z, p, er⟩ a = [] := fun h => if_pos h
  have hnn1 : er ≠ 0 → hnn ⟨m, W, q, z, p, er⟩ a = [(a + p.toNat, er)] := fun h => if_neg h
  have hln : (hnn ⟨m, W, q, z, p, er⟩ a).length ≤ 1 := by unfold hnn; split <;> simp
  generalize hnn ⟨m, W, q, z, p, er⟩ a = nn at *
  generalize a + p.toNat = pn at *
  have hab : (a : Int) + z = ((a + z.toNat : Nat) : Int) := by omega
  have hb1' : ((a + z.toNat - 1 : Nat) : Int) = ((a + z.toNat : Nat) : Int) - 1 := by omega
  have i8 : (a : Int) < ((a + z.toNat : Nat) : Int) := by omega
  have i9 : ((a + z.toNat : Nat) : Int) ≤ L.length := by omega
  have hz : z ≠ 0 := hc2
  have HB1' := Lib.hid hb1'
  have HLN := Lib.hid (fun _ : Unit => And.intro hln (And.intro HN.out he))
  have HNN := Lib.hid (And.intro hnn0 (And.intro hnn1 hpl))
  generalize a + z.toNat - 1 = b1 at *
  generalize a + z.toNat = b at *
  have h9 : (er == 9) = false := by simp [hc1]
  clear hb1' hln hnn0 hnn1 hpl he hc2
  subst hm
  unfold InnAt ScP
  dsimp only
  subst hq
  have hbi : (b : Int) + n ≤ L.length := by omega
  have hle : (n : Int) ≤ (L.length : Int) - b := by omega
  have HBN := Lib.hid (fun _ : Unit => hbn)
  have hn3 : (n : Int) ≤ 300 := by omega
  have hwn : IntKind.u64.wrap (n : Int) = n := IntWalk.u64_in _ (by omega)
  clear hbn hmj
  go_enter Try.func35, Try.ntmps35
  go_wp2_with fail
  refine HRD.out.mono ?_
  rintro e1 w1 ⟨rfl, hb1⟩
  have HS1 := Lib.hid (HH.out.on hb1 HB.out)
  have HB1 := Lib.hid (Nat.le_trans HB.out hb1.size)
  have HW1 := Lib.hid (hb1.mono HB.out)
  have HBW := Lib.hid HB.out
  clear hb1 HRD HB HH c0 c1 c2 c3
  go_upto_if 51 with fail
  refine wp_cut_mask kInn (fun _ W => Sn W B g (some ⟨ab, ao, none⟩) cap L D K s (N ++ nn) E ∧ Below B w W) ?_ ?_
  · intro K' HK'
    by_cases her : er = 0
    · have e3 := HNN.out.1 her
      subst her
      subst e3
      clear HNN
      go_wp2_with fail
      refine HK'.out _ _ rfl ⟨?_, HW1.out⟩
      rw [List.append_nil]
      exact HS1.out
    · have hpl := HNN.out.2.2 her
      have e3 := HNN.out.2.1 her
      subst hpl
      subst e3
      clear HNN
      go_wp2_with fail
      refine (ref_note w1 B g (some ⟨ab, ao, none⟩) cap L D K s N E pn er HS1.out HB1.out HN.out).mono ?_
      rintro e2 w2 ⟨rfl, hs2, hw2⟩
      have HS2 := Lib.hid hs2
      have HW2 := Lib.hid (HW1.out.trans hw2)
      clear hs2 hw2 HS1 HW1
      go_wp2_with fail
      exact HK'.out _ _ rfl ⟨HS2.out, HW2.out⟩
  intro t w3 hR
  obtain ⟨hs3, hw3⟩ := hR
  dsimp only [mask, kInn, Nat.reduceAdd]
  have hB3 := Nat.le_trans HBW.out hw3.size
  obtain ⟨v0, v1, v2, v3⟩ := hs3.cells
  obtain ⟨vA, vE, vV, hV⟩ := hs3
  have u6 : w3.cell? ⟨g, 6, none⟩ = some vV := hV.cells.2.2.2.2.2.2.1
  obtain ⟨A', n', c', w4, hr, h6, h7, hs4, hw4⟩ := ev_add hV hB3 (by have := HLN.out (); omega) ⟨1, 2, W, (n : Int), 0, dp, b1⟩
  have e2 : (AEv.cells ⟨1, 2, W, (n : Int), 0, dp, b1⟩).toArray = #[.int .i64 1, .int .i64 2, .int .i64 W, .int .i64 (dp : Int), .int .i64 ((b : Int) - 1), .int .u64 (n : Int), .int .u8 0] := by simp [AEv.cells, HB1'.out]
  rw [e2] at hr
  clear e2
  have HR := Lib.hid hr
  have HS4 := Lib.hid hs4
  have HW4 := Lib.hid (hw3.trans hw4)
  clear hr hs4 hw4 hV hw3 hB3 HS1 HW1 HB1 HNN
  have HZ := ev_zero
  unfold ev0 at HZ
  go_upto_region 15 with ((with_reducible refine is_append 44 rfl ?_); (with_reducible refine wpList_append_run rfl rfl HR.out ?_ ?_ ?_); (· rfl); (· rfl))
  generalize w4.setCell ⟨g, 6, none⟩ (.slice A' n' c') = w5 at *
  clear HR h6 h7 HZ v0 v1 v2 v3 u6
  obtain ⟨c0, -, -, -⟩ := HS4.out.cells
  go_wp2_with fail
  have hE0 := HLN.out ()
  have HSN := Lib.hid (fun _ : Unit => (hE0.2.2 : E.length ≤ 900000))
  clear hE0
  refine wp_loop_mask kText (fun m t W' => ∃ i : Nat, m + i = b + n ∧ t 16 = .int .i64 (i : Int) ∧ TextI w W' B g (some ⟨ab, ao, none⟩) cap L D K s (N ++ nn) (E ++ [⟨1, 2, W, (n : Int), 0, dp, b1⟩]) dp b i) n ⟨b, Nat.add_comm _ _, rfl, Nat.le_refl _, by rw [slice_nil]; show Sn _ _ _ _ _ _ _ _ _ _ (_ ++ []); rw [List.append_nil]; exact HS4.out, Nat.le_trans HBW.out HW4.out.size, HW4.out⟩ ?_
  intro m t6 wr hrel K6 HK6
  dsimp only [mask, kText, Nat.reduceAdd]
  obtain ⟨i, hmi, e16, hT⟩ := hrel
  rw [e16]
  clear e16 HS4 HW4
  cases m with
  | zero =>
    obtain rfl : i = b + n := by omega
    have HT := Lib.hid hT
    have hlt : ¬ ((b + n : Nat) : Int) < (b : Int) + n := by omega
    clear hT hmi
    go_wp2_with fail
    refine bodyPost_ret (results_tmp2 rfl _ _ _) rfl ?_
    exact ⟨rfl, by simpa using HT.out.sn, HT.out.bel⟩
  | succ m =>
    have hlt : (i : Int) < (b : Int) + n := by omega
    have hbn2 := HBN.out ()
    have hil : i < L.length := by omega
    have hii : (i : Int) < L.length := by omega
    have hi0 : (0 : Int) ≤ i := by omega
    have hwi : IntKind.i64.wrap ((i : Int) + 1) = (i : Int) + 1 := IntWalk.i64_in _ (by omega)
    obtain ⟨vA', vE', vV', hV⟩ := hT.sn
    have hbW : Below wr.heap.size wr (wr.alloc (.cells #[.int .i64 2, .int .i64 0, .int .i64 0, .int .i64 (dp : Int), .int .i64 (i : Int), .int .u64 0, .int .u8 (L.getD i 0)] 48)).drew := below_drawn (below_alloc _ _)
    have hV2 := hV.on hbW hT.hb
    have hgo := ev_addB hV2 (Nat.le_trans hT.hb hbW.size) (by have := HSN.out (); rw [List.length_append, List.length_append, List.length_singleton, length_bevs, length_slice (by omega)]; omega) ⟨2, 0, 0, 0, L.getD i 0, dp, i⟩ wr.heap.size (Blk.fresh wr 48 (AEv.cells ⟨2, 0, 0, 0, L.getD i 0, dp, i⟩).toArray).drew
    rw [List.append_assoc, ← bevs_step hT.lo hil] at hgo
    have hbW2 := hbW.mono hT.hb
    have hV1 := hV.on (below_alloc wr (.cells #[.int .i64 2, .int .i64 0, .int .i64 0, .int .i64 (dp : Int), .int .i64 (i : Int), .int .u64 0, .int .u8 (L.getD i 0)] 48)) hT.hb
    obtain ⟨ab', ao', he1, -, hcb⟩ := hV.rd.get hil
    injection he1 with he1
    injection he1 with he1 he2
    subst he1
    subst he2
    obtain ⟨ab', ao', he1, -, hcb1⟩ := hV1.rd.get hil
    injection he1 with he1
    injection he1 with he1 he2
    subst he1
    subst he2
    obtain ⟨k0, -, -, -, -, -, k6, -⟩ := hV.cells
    obtain ⟨j0, -, -, -, -, -, j6, -⟩ := hV1.cells
    obtain ⟨ab', ao', he1, -, hcb2⟩ := hV2.rd.get hil
    injection he1 with he1
    injection he1 with he1 he2
    subst he1
    subst he2
    obtain ⟨l0, -, -, -, -, -, l6, -⟩ := hV2.cells
    obtain ⟨A9, n9, c9, w9, hr9, h69, h79, hs9, hw9⟩ := hgo
    have HN9 : Hid (TextI w (w9.setCell ⟨g, 6, none⟩ (.slice A9 n9 c9)) B g (some ⟨ab, ao, none⟩) cap L D K s (N ++ nn) (E ++ [⟨1, 2, W, (n : Int), 0, dp, b1⟩]) dp b (i + 1)) := ⟨Nat.le_succ_of_le hT.lo, hs9, Nat.le_trans (Nat.le_trans hT.hb hbW2.size) hw9.size, (hT.bel.trans hbW2).trans hw9⟩
    have HR := Lib.hid hr9
    have HMI := Lib.hid (fun _ : Unit => hmi)
    have HZ := ev_zero
    unfold ev0 at HZ
    clear hr9 hs9 hw9 hT hV hV1 hV2 hbW hbW2 hmi hil hbn2
    generalize L.getD i 0 = x at *
    go_wp2_with fail
    go_region_law (refine step_append_run rfl rfl HR.out rfl rfl ?_)
    go_wp2_with fail
    all_goals exact HK6.out _ _ m (Nat.lt_succ_self m) rfl ⟨i + 1, by have := HMI.out (); omega, rfl, HN9.out⟩
end Go.Proofs.Ytchhbcmkhbfpoaa

/- The document's scan (layer 14): a text that isn't whole. -/
namespace Go.Proofs.Ytchhbcmkhbfpoaa
open Go.RowKit

set_option maxRecDepth 100000 in
set_option maxHeartbeats 4000000 in
theorem inner_bytesShort (B g : Nat) (A : Option Addr) (cap : Nat) (L : List Int) (D K : Nat) (s : Int) (a dp : Nat) (w : World) (N : List Note) (E : List AEv) (h : Sn w B g A cap L D K s N E) (hB : B ≤ w.heap.size) (hb : ByteL L) (hl : L.length ≤ 300) (ha : a < L.length) (hd : dp ≤ 1000) (hn : N.length ≤ 900000) (he : E.length ≤ 900000) (n : Nat) (hc : (hread (L.drop a)).e ≠ 9 ∧ (hread (L.drop a)).many ≠ 0) (hm : (hread (L.drop a)).major = 2) (hq : (n : Int) < (hread (L.drop a)).arg) (hbn : a + (hread (L.drop a)).many.toNat + n = L.length) :
    InnAt B g A cap L D K s a dp w N E ⟨hnn (hread (L.drop a)) a ++ [], ⟨1, (hread (L.drop a)).major, (hread (L.drop a)).width, (hread (L.drop a)).arg, 0, dp, a + (hread (L.drop a)).many.toNat - 1⟩ :: bevs dp (slice L (a + (hread (L.drop a)).many.toNat) (a + (hread (L.drop a)).many.toNat + n)) (a + (hread (L.drop a)).many.toNat), a + (hread (L.drop a)).many.toNat + n, false⟩ := by
  obtain ⟨ab, ao, hA, -, -⟩ := (show Rd w B .u8 A L from let ⟨_, _, _, h⟩ := h; h.rd).get ha
  subst hA
  obtain ⟨c0, c1, c2, c3⟩ := h.cells
  have HH := Lib.hid h
  have HB := Lib.hid hB
  have i1 : (a : Int) < L.length := by omega
  have i2 : (dp : Int) ≤ 1000 := by omega
  have i3 : (L.length : Int) ≤ 300 := by omega
  have i4 : (0 : Int) ≤ dp := by omega
  have i5 : (0 : Int) ≤ a := by omega
  have HRD := Lib.hid (ref_head h hB hb hl a (by omega))
  have hmn := hread_many (L.drop a)
  rw [List.length_drop] at hmn
  have hpl : (hread (L.drop a)).e ≠ 0 → (if (hread (L.drop a)).place < 0 then -1 else (hread (L.drop a)).place + (a : Int)) = ((a + (hread (L.drop a)).place.toNat : Nat) : Int) := fun h0 => by
    have := hread_placed h0
    rw [if_neg (by omega)]
    omega
  have hmj := hread_major (L.drop a) (fun c hc => hb c (List.mem_of_mem_drop hc))
  have hag := hread_arg (L.drop a)
  unfold hreadV at HRD
  generalize hread (L.drop a) = r at *
  obtain ⟨m, W, q, z, p, er⟩ := r
  dsimp only at HRD hmn hpl hmj hag hc hm hq hbn ⊢
  generalize (if p < 0 then -1 else p + (a : Int)) = pl at *
  have i6 : (a : Int) + z ≤ L.length := by omega
  have i7 : (0 : Int) ≤ z := hmn.1
  have hlN : N.length ≤ 1000000000 := by omega
  have HN := Lib.hid hlN
  clear h hB hb hl ha hd hmn hlN hn
  obtain ⟨hc1, hc2⟩ := hc
  have hnn0 : er = 0 → hnn ⟨m, W, q, z, p, er⟩ a = [] := fun h => if_pos h
  have hnn1 : er ≠ 0 → hnn ⟨m, W, q, z, p, er⟩ a = [(a + p.toNat, er)] := fun h => if_neg h
  have hln : (hnn ⟨m, W, q, z, p, er⟩ a).length ≤ 1 := by unfold hnn; split <;> simp
  generalize hnn ⟨m, W, q, z, p, er⟩ a = nn at *
  generalize a + p.toNat = pn at *
  have hab : (a : Int) + z = ((a + z.toNat : Nat) : Int) := by omega
  have hb1' : ((a + z.toNat - 1 : Nat) : Int) = ((a + z.toNat : Nat) : Int) - 1 := by omega
  have i8 : (a : Int) < ((a + z.toNat : Nat) : Int) := by omega
  have i9 : ((a + z.toNat : Nat) : Int) ≤ L.length := by omega
  have hz : z ≠ 0 := hc2
  have HB1' := Lib.hid hb1'
  have HLN := Lib.hid (fun _ : Unit => And.intro hln (And.intro HN.out he))
  have HNN := Lib.hid (And.intro hnn0 (And.intro hnn1 hpl))
  generalize a + z.toNat - 1 = b1 at *
  generalize a + z.toNat = b at *
  have h9 : (er == 9) = false := by simp [hc1]
  clear hb1' hln hnn0 hnn1 hpl he hc2
  subst hm
  unfold InnAt ScP
  dsimp only
  have hbi : (b : Int) + n ≤ L.length := by omega
  have hlb : (L.length : Int) - b = n := by omega
  have hqn : decide (q ≤ (n : Int)) = false := decide_eq_false (by omega)
  have HBN := Lib.hid (fun _ : Unit => hbn)
  have hn3 : (n : Int) ≤ 300 := by omega
  have hwn : IntKind.u64.wrap (n : Int) = n := IntWalk.u64_in _ (by omega)
  clear hbn hmj
  go_enter Try.func35, Try.ntmps35
  go_wp2_with fail
  refine HRD.out.mono ?_
  rintro e1 w1 ⟨rfl, hb1⟩
  have HS1 := Lib.hid (HH.out.on hb1 HB.out)
  have HB1 := Lib.hid (Nat.le_trans HB.out hb1.size)
  have HW1 := Lib.hid (hb1.mono HB.out)
  have HBW := Lib.hid HB.out
  clear hb1 HRD HB HH c0 c1 c2 c3
  go_upto_if 51 with fail
  refine wp_cut_mask kInn (fun _ W => Sn W B g (some ⟨ab, ao, none⟩) cap L D K s (N ++ nn) E ∧ Below B w W) ?_ ?_
  · intro K' HK'
    by_cases her : er = 0
    · have e3 := HNN.out.1 her
      subst her
      subst e3
      clear HNN
      go_wp2_with fail
      refine HK'.out _ _ rfl ⟨?_, HW1.out⟩
      rw [List.append_nil]
      exact HS1.out
    · have hpl := HNN.out.2.2 her
      have e3 := HNN.out.2.1 her
      subst hpl
      subst e3
      clear HNN
      go_wp2_with fail
      refine (ref_note w1 B g (some ⟨ab, ao, none⟩) cap L D K s N E pn er HS1.out HB1.out HN.out).mono ?_
      rintro e2 w2 ⟨rfl, hs2, hw2⟩
      have HS2 := Lib.hid hs2
      have HW2 := Lib.hid (HW1.out.trans hw2)
      clear hs2 hw2 HS1 HW1
      go_wp2_with fail
      exact HK'.out _ _ rfl ⟨HS2.out, HW2.out⟩
  intro t w3 hR
  obtain ⟨hs3, hw3⟩ := hR
  dsimp only [mask, kInn, Nat.reduceAdd]
  have hB3 := Nat.le_trans HBW.out hw3.size
  obtain ⟨v0, v1, v2, v3⟩ := hs3.cells
  obtain ⟨vA, vE, vV, hV⟩ := hs3
  have u6 : w3.cell? ⟨g, 6, none⟩ = some vV := hV.cells.2.2.2.2.2.2.1
  obtain ⟨A', n', c', w4, hr, h6, h7, hs4, hw4⟩ := ev_add hV hB3 (by have := HLN.out (); omega) ⟨1, 2, W, q, 0, dp, b1⟩
  have e2 : (AEv.cells ⟨1, 2, W, q, 0, dp, b1⟩).toArray = #[.int .i64 1, .int .i64 2, .int .i64 W, .int .i64 (dp : Int), .int .i64 ((b : Int) - 1), .int .u64 q, .int .u8 0] := by simp [AEv.cells, HB1'.out]
  rw [e2] at hr
  clear e2
  have HR := Lib.hid hr
  have HS4 := Lib.hid hs4
  have HW4 := Lib.hid (hw3.trans hw4)
  clear hr hs4 hw4 hV hw3 hB3 HS1 HW1 HB1 HNN
  have HZ := ev_zero
  unfold ev0 at HZ
  go_upto_region 15 with ((with_reducible refine is_append 44 rfl ?_); (with_reducible refine wpList_append_run rfl rfl HR.out ?_ ?_ ?_); (· rfl); (· rfl))
  generalize w4.setCell ⟨g, 6, none⟩ (.slice A' n' c') = w5 at *
  clear HR h6 h7 HZ v0 v1 v2 v3 u6
  obtain ⟨c0, -, -, -⟩ := HS4.out.cells
  go_wp2_with fail
  have hE0 := HLN.out ()
  have HSN := Lib.hid (fun _ : Unit => (hE0.2.2 : E.length ≤ 900000))
  clear hE0
  refine wp_loop_mask kText (fun m t W' => ∃ i : Nat, m + i = b + n ∧ t 16 = .int .i64 (i : Int) ∧ TextI w W' B g (some ⟨ab, ao, none⟩) cap L D K s (N ++ nn) (E ++ [⟨1, 2, W, q, 0, dp, b1⟩]) dp b i) n ⟨b, Nat.add_comm _ _, rfl, Nat.le_refl _, by rw [slice_nil]; show Sn _ _ _ _ _ _ _ _ _ _ (_ ++ []); rw [List.append_nil]; exact HS4.out, Nat.le_trans HBW.out HW4.out.size, HW4.out⟩ ?_
  intro m t6 wr hrel K6 HK6
  dsimp only [mask, kText, Nat.reduceAdd]
  obtain ⟨i, hmi, e16, hT⟩ := hrel
  rw [e16]
  clear e16 HS4 HW4
  cases m with
  | zero =>
    obtain rfl : i = b + n := by omega
    have HT := Lib.hid hT
    have hlt : ¬ ((b + n : Nat) : Int) < (b : Int) + n := by omega
    clear hT hmi
    go_wp2_with fail
    refine bodyPost_ret (results_tmp2 rfl _ _ _) rfl ?_
    exact ⟨rfl, by simpa using HT.out.sn, HT.out.bel⟩
  | succ m =>
    have hlt : (i : Int) < (b : Int) + n := by omega
    have hbn2 := HBN.out ()
    have hil : i < L.length := by omega
    have hii : (i : Int) < L.length := by omega
    have hi0 : (0 : Int) ≤ i := by omega
    have hwi : IntKind.i64.wrap ((i : Int) + 1) = (i : Int) + 1 := IntWalk.i64_in _ (by omega)
    obtain ⟨vA', vE', vV', hV⟩ := hT.sn
    have hbW : Below wr.heap.size wr (wr.alloc (.cells #[.int .i64 2, .int .i64 0, .int .i64 0, .int .i64 (dp : Int), .int .i64 (i : Int), .int .u64 0, .int .u8 (L.getD i 0)] 48)).drew := below_drawn (below_alloc _ _)
    have hV2 := hV.on hbW hT.hb
    have hgo := ev_addB hV2 (Nat.le_trans hT.hb hbW.size) (by have := HSN.out (); rw [List.length_append, List.length_append, List.length_singleton, length_bevs, length_slice (by omega)]; omega) ⟨2, 0, 0, 0, L.getD i 0, dp, i⟩ wr.heap.size (Blk.fresh wr 48 (AEv.cells ⟨2, 0, 0, 0, L.getD i 0, dp, i⟩).toArray).drew
    rw [List.append_assoc, ← bevs_step hT.lo hil] at hgo
    have hbW2 := hbW.mono hT.hb
    have hV1 := hV.on (below_alloc wr (.cells #[.int .i64 2, .int .i64 0, .int .i64 0, .int .i64 (dp : Int), .int .i64 (i : Int), .int .u64 0, .int .u8 (L.getD i 0)] 48)) hT.hb
    obtain ⟨ab', ao', he1, -, hcb⟩ := hV.rd.get hil
    injection he1 with he1
    injection he1 with he1 he2
    subst he1
    subst he2
    obtain ⟨ab', ao', he1, -, hcb1⟩ := hV1.rd.get hil
    injection he1 with he1
    injection he1 with he1 he2
    subst he1
    subst he2
    obtain ⟨k0, -, -, -, -, -, k6, -⟩ := hV.cells
    obtain ⟨j0, -, -, -, -, -, j6, -⟩ := hV1.cells
    obtain ⟨ab', ao', he1, -, hcb2⟩ := hV2.rd.get hil
    injection he1 with he1
    injection he1 with he1 he2
    subst he1
    subst he2
    obtain ⟨l0, -, -, -, -, -, l6, -⟩ := hV2.cells
    obtain ⟨A9, n9, c9, w9, hr9, h69, h79, hs9, hw9⟩ := hgo
    have HN9 : Hid (TextI w (w9.setCell ⟨g, 6, none⟩ (.slice A9 n9 c9)) B g (some ⟨ab, ao, none⟩) cap L D K s (N ++ nn) (E ++ [⟨1, 2, W, q, 0, dp, b1⟩]) dp b (i + 1)) := ⟨Nat.le_succ_of_le hT.lo, hs9, Nat.le_trans (Nat.le_trans hT.hb hbW2.size) hw9.size, (hT.bel.trans hbW2).trans hw9⟩
    have HR := Lib.hid hr9
    have HMI := Lib.hid (fun _ : Unit => hmi)
    have HZ := ev_zero
    unfold ev0 at HZ
    clear hr9 hs9 hw9 hT hV hV1 hV2 hbW hbW2 hmi hil hbn2
    generalize L.getD i 0 = x at *
    go_wp2_with fail
    go_region_law (refine step_append_run rfl rfl HR.out rfl rfl ?_)
    go_wp2_with fail
    all_goals exact HK6.out _ _ m (Nat.lt_succ_self m) rfl ⟨i + 1, by have := HMI.out (); omega, rfl, HN9.out⟩
end Go.Proofs.Ytchhbcmkhbfpoaa

/- Package utf: a walk's steps. -/
namespace Go.Proofs.Ytchhbcmkhbfpoaa
open Go.RowKit

theorem utf_bounds (c : Int) (w : World) :
    Calls Try.prog 88 #[.int .u8 c] w fun e w' => e = .returned (.tuple #[.int .u8 (ulo c), .int .u8 (uhi c)]) ∧ w = w' := by
  by_cases h1 : c = 224
  · subst h1
    go_enter Try.func88, Try.ntmps88
    go_wp2
    go_ret2
    exact ⟨rfl, rfl⟩
  by_cases h2 : c = 237
  · subst h2
    go_enter Try.func88, Try.ntmps88
    go_wp2
    go_ret2
    exact ⟨rfl, rfl⟩
  by_cases h3 : c = 240
  · subst h3
    go_enter Try.func88, Try.ntmps88
    go_wp2
    go_ret2
    exact ⟨rfl, rfl⟩
  by_cases h4 : c = 244
  · subst h4
    go_enter Try.func88, Try.ntmps88
    go_wp2
    go_ret2
    exact ⟨rfl, rfl⟩
  have e1 : ulo c = 128 := by unfold ulo; rw [if_neg h1, if_neg h3]
  have e2 : uhi c = 191 := by unfold uhi; rw [if_neg h2, if_neg h4]
  rw [e1, e2]
  clear e1 e2
  go_enter Try.func88, Try.ntmps88
  go_wp2
  go_ret2
  exact ⟨rfl, rfl⟩

theorem ublk {w : World} {g : Nat} {t : TypeId} {q : UQ} (h : Blk w g t (ucells q)) :
    w.cell? ⟨g, 0, none⟩ = some (.int .i64 q.left) ∧ w.cell? ⟨g, 1, none⟩ = some (.int .u8 q.lo) ∧ w.cell? ⟨g, 2, none⟩ = some (.int .u8 q.hi) ∧ w.cell? ⟨g, 3, none⟩ = some (.bool q.wr) ∧ (∀ i, w.frozen? ⟨g, i, none⟩ = false) :=
  ⟨h.cell 0, h.cell 1, h.cell 2, h.cell 3, h.free⟩
theorem umore_some {c : Int} {n : Nat} (h : umore c = some n) : (n = 3 ∧ 240 ≤ c ∧ c ≤ 244) ∨ (n = 2 ∧ 224 ≤ c ∧ c ≤ 239) ∨ (n = 1 ∧ 194 ≤ c ∧ c ≤ 223) ∨ (n = 0 ∧ c ≤ 127) := by
  unfold umore at h
  split at h
  · injection h; omega
  split at h
  · injection h; omega
  split at h
  · injection h; omega
  split at h
  · injection h; omega
  · cases h
theorem umore_none {c : Int} (h : umore c = none) : 127 < c ∧ ¬ (194 ≤ c ∧ c ≤ 223) ∧ ¬ (224 ≤ c ∧ c ≤ 239) ∧ ¬ (240 ≤ c ∧ c ≤ 244) := by
  unfold umore at h
  split at h
  · cases h
  split at h
  · cases h
  split at h
  · cases h
  split at h
  · cases h
  · omega
theorem ucells_put (l : Nat) (lo hi : Int) (wr : Bool) (a b : Int) (n : Nat) : (((ucells ⟨l, lo, hi, wr⟩).setIfInBounds 0 (.int .i64 n)).setIfInBounds 1 (.int .u8 a)).setIfInBounds 2 (.int .u8 b) = ucells ⟨n, a, b, wr⟩ := rfl
theorem utf_begin_some (c : Int) (n : Nat) (l : Int) (h : Int) (hn : umore c = some n) (w : World) (g : Nat) (hg : Blk w g 71 (ucells ⟨0, l, h, false⟩)) :
    Calls Try.prog 76 #[.pointer (some ⟨g, 0, none⟩), .int .u8 c] w fun e w' => e = .returned (.bool true) ∧ Blk w' g 71 (ucells ⟨n, ulo c, uhi c, false⟩) ∧ Only g w w' := by
  obtain ⟨c0, c1, c2, c3, fz⟩ := ublk hg
  have f0 := fz 0
  have f1 := fz 1
  have f2 := fz 2
  have z : ((0 : Nat) : Int) = 0 := rfl
  simp only [z] at c0
  clear fz c3 z
  rcases umore_some hn with ⟨rfl, r1, r2⟩ | ⟨rfl, r1, r2⟩ | ⟨rfl, r1, r2⟩ | ⟨rfl, r1⟩
  · go_enter Try.func76, Try.ntmps76
    go_wp2_with (go_at_call 88; refine (utf_bounds _ _).mono ?_; rintro e w' ⟨rfl, rfl⟩)
    go_ret
    exact ⟨rfl, ((((hg.put 0 (.int .i64 1)).put 0 (.int .i64 2)).put 0 (.int .i64 3)).put 1 (.int .u8 (ulo c))).put 2 (.int .u8 (uhi c)), (((((Only.refl g w).put 0 _).put 0 _).put 0 _).put 1 _).put 2 _⟩
  · go_enter Try.func76, Try.ntmps76
    go_wp2_with (go_at_call 88; refine (utf_bounds _ _).mono ?_; rintro e w' ⟨rfl, rfl⟩)
    go_ret
    exact ⟨rfl, (((hg.put 0 (.int .i64 1)).put 0 (.int .i64 2)).put 1 (.int .u8 (ulo c))).put 2 (.int .u8 (uhi c)), ((((Only.refl g w).put 0 _).put 0 _).put 1 _).put 2 _⟩
  · go_enter Try.func76, Try.ntmps76
    go_wp2_with (go_at_call 88; refine (utf_bounds _ _).mono ?_; rintro e w' ⟨rfl, rfl⟩)
    go_ret
    exact ⟨rfl, ((hg.put 0 (.int .i64 1)).put 1 (.int .u8 (ulo c))).put 2 (.int .u8 (uhi c)), (((Only.refl g w).put 0 _).put 1 _).put 2 _⟩
  · go_enter Try.func76, Try.ntmps76
    go_wp2_with (go_at_call 88; refine (utf_bounds _ _).mono ?_; rintro e w' ⟨rfl, rfl⟩)
    go_ret
    exact ⟨rfl, (hg.put 1 (.int .u8 (ulo c))).put 2 (.int .u8 (uhi c)), ((Only.refl g w).put 1 _).put 2 _⟩
theorem utf_begin_none (c : Int) (hn : umore c = none) (w : World) (g : Nat) :
    Calls Try.prog 76 #[.pointer (some ⟨g, 0, none⟩), .int .u8 c] w fun e w' => e = .returned (.bool false) ∧ w = w' := by
  obtain ⟨r1, r2, r3, r4⟩ := umore_none hn
  go_enter Try.func76, Try.ntmps76
  go_wp2
  all_goals go_ret
  all_goals exact ⟨rfl, rfl⟩
theorem utf_follow_no (c l h : Int) (n : Nat) (hn : c < l ∨ h < c) (w : World) (g : Nat) (hg : Blk w g 71 (ucells ⟨n, l, h, false⟩)) :
    Calls Try.prog 77 #[.pointer (some ⟨g, 0, none⟩), .int .u8 c] w fun e w' => e = .returned (.bool false) ∧ w = w' := by
  obtain ⟨c0, c1, c2, c3, fz⟩ := ublk hg
  dsimp only at c0 c1 c2 c3
  clear fz
  by_cases hcl : c < l
  · go_enter Try.func77, Try.ntmps77
    go_wp2
    go_ret
    exact ⟨rfl, rfl⟩
  · have hch : h < c := by omega
    go_enter Try.func77, Try.ntmps77
    go_wp2
    go_ret
    exact ⟨rfl, rfl⟩
theorem utf_follow_yes (c l h : Int) (n : Nat) (h0 : ¬ c < l) (h1 : ¬ h < c) (hm : n < 100) (w : World) (g : Nat) (hg : Blk w g 71 (ucells ⟨n + 1, l, h, false⟩)) :
    Calls Try.prog 77 #[.pointer (some ⟨g, 0, none⟩), .int .u8 c] w fun e w' => e = .returned (.bool true) ∧ Blk w' g 71 (ucells ⟨n, 128, 191, false⟩) ∧ Only g w w' := by
  obtain ⟨c0, c1, c2, c3, fz⟩ := ublk hg
  dsimp only at c0 c1 c2 c3
  have f0 := fz 0
  have f1 := fz 1
  have f2 := fz 2
  have z : ((n + 1 : Nat) : Int) = (n : Int) + 1 := by simp
  rw [z] at c0
  clear fz z c3
  go_enter Try.func77, Try.ntmps77
  go_wp2
  go_ret
  exact ⟨rfl, ((hg.put 0 (.int .i64 n)).put 1 (.int .u8 128)).put 2 (.int .u8 191), (((Only.refl g w).put 0 _).put 1 _).put 2 _⟩
theorem utf_done (q : UQ) (w : World) (g : Nat) (hg : Blk w g 71 (ucells q)) :
    Calls Try.prog 61 #[.pointer (some ⟨g, 0, none⟩)] w fun e w' => e = .returned (.bool (udone q)) ∧ w = w' := by
  obtain ⟨n, l, h, wr⟩ := q
  obtain ⟨c0, c1, c2, c3, fz⟩ := ublk hg
  dsimp only at c0 c1 c2 c3
  clear fz c1 c2
  cases wr with
  | true =>
    go_enter Try.func61, Try.ntmps61
    go_wp2
    go_ret
    exact ⟨rfl, rfl⟩
  | false =>
    have e : udone ⟨n, l, h, false⟩ = ((n : Int) == 0) := by
      unfold udone
      cases n with
      | zero => rfl
      | succ n => simp; omega
    rw [e]
    go_enter Try.func61, Try.ntmps61
    go_wp2
    go_ret
    exact ⟨rfl, rfl⟩
theorem utf_done_nil (w : World) : Calls Try.prog 61 #[.pointer none] w fun e w' => e = .returned (.bool false) ∧ w = w' := by
  go_enter Try.func61, Try.ntmps61
  go_wp2
  go_ret
  exact ⟨rfl, rfl⟩
theorem utf_step_nil (c : Int) (w : World) : Calls Try.prog 60 #[.pointer none, .int .u8 c] w fun e w' => e = .returned (.bool false) ∧ w = w' := by
  go_enter Try.func60, Try.ntmps60
  go_wp2
  go_ret
  exact ⟨rfl, rfl⟩
theorem utf_reset_nil (w : World) : Calls Try.prog 69 #[.pointer none] w fun e w' => e = .returned (.tuple #[]) ∧ w = w' := by
  go_enter Try.func69, Try.ntmps69
  go_wp2
  go_end0
  exact ⟨rfl, rfl⟩
theorem utf_reset (q : UQ) (w : World) (g : Nat) (hg : Blk w g 71 (ucells q)) :
    Calls Try.prog 69 #[.pointer (some ⟨g, 0, none⟩)] w fun e w' => e = .returned (.tuple #[]) ∧ Blk w' g 71 (ucells uq0) ∧ Only g w w' := by
  obtain ⟨c0, c1, c2, c3, fz⟩ := ublk hg
  have f0 := fz 0
  have f1 := fz 1
  have f2 := fz 2
  have f3 := fz 3
  clear fz
  go_enter Try.func69, Try.ntmps69
  go_wp2
  go_end0
  exact ⟨rfl, (((hg.put 0 (.int .i64 0)).put 1 (.int .u8 0)).put 2 (.int .u8 0)).put 3 (.bool false), ((((Only.refl g w).put 0 _).put 1 _).put 2 _).put 3 _⟩
theorem utf_step (q : UQ) (c : Int) (hn : q.left < 100) (w : World) (g : Nat) (hg : Blk w g 71 (ucells q)) :
    Calls Try.prog 60 #[.pointer (some ⟨g, 0, none⟩), .int .u8 c] w fun e w' => e = .returned (.bool (!(ustep q c).wr)) ∧ Blk w' g 71 (ucells (ustep q c)) ∧ Only g w w' := by
  obtain ⟨n, l, h, wr⟩ := q
  obtain ⟨c0, c1, c2, c3, fz⟩ := ublk hg
  dsimp only at c0 c1 c2 c3 hn
  have f3 := fz 3
  clear fz
  cases wr with
  | true =>
    have e : ustep ⟨n, l, h, true⟩ c = ⟨n, l, h, true⟩ := rfl
    rw [e]
    clear e
    go_enter Try.func60, Try.ntmps60
    go_wp2
    go_ret
    exact ⟨rfl, hg, Only.refl _ _⟩
  | false =>
    cases n with
    | zero =>
      cases hm : umore c with
      | none =>
        have e : ustep ⟨0, l, h, false⟩ c = ⟨0, l, h, true⟩ := by unfold ustep; rw [if_neg (by simp), if_pos rfl, hm]
        rw [e]
        clear e
        have z : ((0 : Nat) : Int) = 0 := rfl
        rw [z] at c0
        clear z c1 c2
        have HB := Lib.hid (utf_begin_none c hm)
        have HG := Lib.hid hg
        clear hg
        go_enter Try.func60, Try.ntmps60
        go_wp2_with (go_at_call 76; refine (HB.out _ _).mono ?_; rintro e w' ⟨rfl, rfl⟩)
        go_ret
        exact ⟨rfl, HG.out.put 3 (.bool true), (Only.refl _ _).put 3 _⟩
      | some n =>
        have e : ustep ⟨0, l, h, false⟩ c = ⟨n, ulo c, uhi c, false⟩ := by unfold ustep; rw [if_neg (by simp), if_pos rfl, hm]
        rw [e]
        clear e
        have z : ((0 : Nat) : Int) = 0 := rfl
        rw [z] at c0
        clear z c1 c2
        have HB := Lib.hid (utf_begin_some c n l h hm w g hg)
        clear hg
        go_enter Try.func60, Try.ntmps60
        go_wp2_with fail
        refine HB.out.mono ?_
        rintro e w1 ⟨rfl, b1, o1⟩
        have d3 : w1.cell? ⟨g, 3, none⟩ = some (.bool false) := b1.cell 3
        have e3 := b1.free 3
        have B1 := Lib.hid b1
        have O1 := Lib.hid o1
        clear b1 o1 HB c0 c3 f3
        go_wp2
        go_ret
        exact ⟨rfl, B1.out.put 3 (.bool false), O1.out.put 3 _⟩
    | succ n =>
      by_cases hm : c < l ∨ h < c
      · have e : ustep ⟨n + 1, l, h, false⟩ c = ⟨n + 1, l, h, true⟩ := by unfold ustep; rw [if_neg (by simp), if_neg (by simp), if_pos hm]
        rw [e]
        clear e c1 c2
        have z : (((n + 1 : Nat) : Int) == 0) = false := by rw [beq_eq_false_iff_ne]; omega
        generalize ((n + 1 : Nat) : Int) = N at *
        have HB := Lib.hid (utf_follow_no c l h (n + 1) hm w g hg)
        have HG := Lib.hid hg
        clear hg
        go_enter Try.func60, Try.ntmps60
        go_wp2_with (go_at_call 77; refine HB.out.mono ?_; rintro e w' ⟨rfl, rfl⟩)
        go_ret
        exact ⟨rfl, HG.out.put 3 (.bool true), (Only.refl _ _).put 3 _⟩
      · have e : ustep ⟨n + 1, l, h, false⟩ c = ⟨n, 128, 191, false⟩ := by unfold ustep; rw [if_neg (by simp), if_neg (by simp), if_neg hm]; rfl
        rw [e]
        clear e c1 c2
        have z : (((n + 1 : Nat) : Int) == 0) = false := by rw [beq_eq_false_iff_ne]; omega
        have HB := Lib.hid (utf_follow_yes c l h n (by omega) (by omega) (by omega) w g hg)
        generalize ((n + 1 : Nat) : Int) = N at *
        clear hg hm
        go_enter Try.func60, Try.ntmps60
        go_wp2_with fail
        refine HB.out.mono ?_
        rintro e w1 ⟨rfl, b1, o1⟩
        have d3 : w1.cell? ⟨g, 3, none⟩ = some (.bool false) := b1.cell 3
        have e3 := b1.free 3
        have B1 := Lib.hid b1
        have O1 := Lib.hid o1
        clear b1 o1 HB c0 c3 f3
        go_wp2
        go_ret
        exact ⟨rfl, B1.out.put 3 (.bool false), O1.out.put 3 _⟩
end Go.Proofs.Ytchhbcmkhbfpoaa
