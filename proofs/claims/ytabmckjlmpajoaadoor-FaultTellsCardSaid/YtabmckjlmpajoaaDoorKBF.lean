/- The text of what wraps; the document's text. -/
import Derived.Test.YtabmckjlmpajoaaDoorKBB
import Derived.Test.YtabmckjlmpajoaaDoorKAG
namespace Go.Proofs.YtabmckjlmpajoaaDoor
open Go.RowKit Go.Sort

theorem isWW (b : Nat) (xT : TypeId) (w : World) : (Instr.typeAssert (wrpE b) xT 45 true).run Tryd.prog w = .ok (.tuple #[.pointer (some ⟨b, 0, none⟩), .bool true]) w := by kernel_rfl
theorem isFW (b : Nat) (xT : TypeId) (w : World) : (Instr.typeAssert (fltE b) xT 45 true).run Tryd.prog w = .ok (.tuple #[.pointer none, .bool false]) w := by kernel_rfl
theorem mk_toArray (s : ByteArray) : (⟨s.data.toList.toArray⟩ : ByteArray) = s := rfl

set_option maxHeartbeats 4000000 in
set_option maxRecDepth 100000 in
theorem wrp_text (w : World) (fb : Nat) (e a : Int) (s : ByteArray) (l : List ByteArray) (b : Nat) (hC : Chn w fb e a (s :: l) (wrpE b)) (he : I64 e) (ha : I64 a) (ht : Tab w) (hl : l.length ≤ 1000) (hs : ∀ x ∈ s :: l, x.size ≤ 100) :
    Calls Tryd.prog 58 #[.pointer (some ⟨b, 0, none⟩)] w fun ev w' => ev = .returned (.string (chnT e a (s :: l))) ∧ Below w.heap.size w w' := by
  have H0 : Lib.IsBuilderF 118 5 w.heap.size w.heap.size (Lib.byteCells []) (w.alloc (.cells #[.pointer none, .slice none 0 0] 118)) := Lib.IsBuilderF.of (Lib.fresh_isBuilder 118 5 w)
  have S0 := below_alloc w (.cells #[.pointer none, .slice none 0 0] 118)
  have HC := Lib.hid hC
  have HT := Lib.hid ht
  have HI0 := Lib.hid H0
  have HS0 := Lib.hid S0
  have HTS := Lib.hid (chnT_size he ha hs)
  have HSS := Lib.hid hs
  have hsz : (chnT e a (s :: l)).size ≤ 1000000 := by
    have := HTS.out
    simp only [List.length_cons] at this
    omega
  clear hC ht H0 S0 hs HTS
  go_enter Tryd.func58, Tryd.ntmps58
  go_wp2_with fail
  go_loopw [0] (fun p wr => ∃ (t : ByteArray) (r : List ByteArray) (c : Nat) (acc : List UInt8), p = .pointer (some ⟨c, 0, none⟩) ∧ Chn w fb e a (t :: r) (wrpE c) ∧ (∀ x ∈ t :: r, x.size ≤ 100) ∧ Lib.IsBuilderF 118 5 w.heap.size w.heap.size (Lib.byteCells acc) wr ∧ Below w.heap.size w wr ∧ acc ++ (chnT e a (t :: r)).data.toList = (chnT e a (s :: l)).data.toList) (fun p wr => match p with | .pointer (some q) => q.block | _ => 0)
  case atStart => exact ⟨s, l, b, [], rfl, HC.out, HSS.out, HI0.out, HS0.out, rfl⟩
  case round =>
    obtain ⟨t, r, c, acc, rfl, hC, hs, hI, hb, hacc⟩ := hrel
    have hlen := congrArg List.length hacc
    rw [List.length_append] at hlen
    simp only [Array.length_toList] at hlen
    have hlen2 : acc.length + (chnT e a (t :: r)).size ≤ 1000000 := by
      have : (chnT e a (t :: r)).size = (chnT e a (t :: r)).data.size := rfl
      have : (chnT e a (s :: l)).size = (chnT e a (s :: l)).data.size := rfl
      omega
    have hts : (chnT e a (t :: r)).size = t.size + 2 + (chnT e a r).size := by
      rw [chnT, ByteArray.size_append, ByteArray.size_append]
      rfl
    obtain ⟨c', u, hc', hB, hk, hC2⟩ := hC
    obtain rfl : c = c' := by simpa [wrpE] using hc'
    have HCC := Lib.hid (fun (W : World) (hW : Below w.heap.size w W) => (⟨(hB.on hW).cell 0, (hB.on hW).cell 1⟩ : W.cell? ⟨c, 0, none⟩ = some (.string t) ∧ W.cell? ⟨c, 1, none⟩ = some u))
    have HI := Lib.hid hI
    have HB := Lib.hid hb
    have HA := Lib.hid hacc
    have HK := Lib.hid hk
    have HC2 := Lib.hid hC2
    have HL := Lib.hid hlen2
    have HTZ := Lib.hid hts
    have HS2 := Lib.hid hs
    obtain ⟨a0, a1⟩ := HCC.out wr hb
    clear hC2 hk hc' hB hI hb hacc hlen hlen2 hts hs
    go_wp2_with (go_at_call 60; refine (b_write w.heap.size w.heap.size acc t _ HI.out (by have := HL.out; have := HTZ.out; omega) HB.out.size).mono ?_)
    rintro ev W1 ⟨rfl, h1, b1⟩
    have HB1 := Lib.hid (HB.out.trans b1)
    have HI1 := Lib.hid h1
    clear h1 b1 a0 a1
    have Z0 : Hid ((acc ++ t.data.toList).length + (⟨#[58, 32]⟩ : ByteArray).size ≤ 140737488355328) := by
      have h1 := HL.out
      have h2 := HTZ.out
      have h4 : (⟨#[58, 32]⟩ : ByteArray).size = 2 := rfl
      unfold Hid
      rw [List.length_append, show t.data.toList.length = t.size from rfl]
      omega
    go_wp2_with (go_at_call 60; refine (b_write w.heap.size w.heap.size (acc ++ t.data.toList) ⟨#[58, 32]⟩ _ (Or.inr HI1.out) Z0.out HB1.out.size).mono ?_)
    rintro ev W2 ⟨rfl, h2, b2⟩
    have HB2 := Lib.hid (HB1.out.trans b2)
    have HI2 := Lib.hid h2
    clear h2 b2
    obtain ⟨a0, a1⟩ := HCC.out W2 HB2.out
    cases r with
    | nil =>
      obtain ⟨rfl, hBF⟩ := HC2.out
      have t1 := isFW fb
      unfold fltE at t1 a1
      have mE := methodErF
      have HF := Lib.hid (fun W (hW : Below w.heap.size w W) => flt_text W fb e a (hBF.on hW) he ha (HT.out.on hW))
      clear hBF
      go_wp2_with (go_at_call 12; refine (HF.out _ HB2.out).mono ?_)
      rintro ev W3 ⟨rfl, b3⟩
      have HI3 := Lib.hid (builder_on HI2.out b3)
      have HB3 := Lib.hid (HB2.out.trans (b3.mono HB2.out.size))
      clear b3
      have Z1 : Hid ((acc ++ t.data.toList ++ (⟨#[58, 32]⟩ : ByteArray).data.toList).length + (fltT e a).size ≤ 140737488355328) := by
        have h1 := HL.out
        have h2 := HTZ.out
        have h3 : (chnT e a []).size = (fltT e a).size := rfl
        have h4 : (⟨#[58, 32]⟩ : ByteArray).data.toList.length = 2 := rfl
        unfold Hid
        rw [List.length_append, List.length_append, h4, show t.data.toList.length = t.size from rfl]
        omega
      go_wp2_with (go_at_call 60; refine (b_write w.heap.size w.heap.size _ (fltT e a) _ (Or.inr HI3.out) Z1.out HB3.out.size).mono ?_)
      rintro ev W4 ⟨rfl, h4, b4⟩
      go_wp2_with (go_at_call 61; refine (Tryd.Builder_String_any_k w.heap.size w.heap.size _ _ (Or.inr h4) (HB3.out.trans b4).size).mono ?_)
      rintro ev W5 ⟨rfl, _, b5, _⟩
      go_wp2_with fail
      go_ret
      refine ⟨?_, (HB3.out.trans b4).trans b5⟩
      have h6 : acc ++ (t.data.toList ++ 58 :: 32 :: (fltT e a).data.toList) = (chnT e a (s :: l)).data.toList := by
        rw [← HA.out, chnT, chnT, ByteArray.data_append, ByteArray.data_append, Array.toList_append, Array.toList_append]
        simp [colon]
      show Ending.returned (.string ⟨(acc ++ (t.data.toList ++ 58 :: 32 :: (fltT e a).data.toList)).toArray⟩) = _
      rw [h6]
    | cons t' r =>
      obtain ⟨c2, u2', rfl, hB2, hk2, hC3⟩ := HC2.out
      have t1 := isWW c2
      unfold wrpE at t1 a1
      go_wp2_with fail
      go_roundw
      case rel =>
        refine ⟨t', r, c2, _, rfl, HC2.out, fun x hx => HS2.out x (List.mem_cons_of_mem _ hx), Or.inr HI2.out, HB2.out, ?_⟩
        rw [← HA.out]
        conv => rhs; rw [chnT]
        rw [ByteArray.data_append, ByteArray.data_append, Array.toList_append, Array.toList_append]
        simp [colon]
      case measure => have := HK.out; unfold rankE wrpE at this; simp at this ⊢; omega

/-! ### The document's text -/
def upR (ss : List ByteArray) (k : Nat) : List ByteArray := (ss.take k).reverse
theorem upR_succ {ss : List ByteArray} {k : Nat} (h : k < ss.length) : upR ss (k + 1) = ss.getD k ByteArray.empty :: upR ss k := by
  unfold upR
  rw [List.take_succ_eq_append_getElem h, List.reverse_append]
  simp [List.getD_eq_getElem?_getD, h]
theorem upR_small {ss : List ByteArray} {k : Nat} (h : ∀ j, j < k → (ss.getD j ByteArray.empty).size ≤ 100) (hk : k ≤ ss.length) : ∀ x ∈ upR ss k, x.size ≤ 100 := by
  intro x hx
  unfold upR at hx
  rw [List.mem_reverse, List.mem_take_iff_getElem] at hx
  obtain ⟨i, hi, rfl⟩ := hx
  have := h i (by omega)
  rwa [List.getD_eq_getElem?_getD, List.getElem?_eq_getElem (by omega)] at this
theorem upR_len (ss : List ByteArray) (k : Nat) : (upR ss k).length ≤ k := by unfold upR; rw [List.length_reverse, List.length_take]; omega

set_option maxHeartbeats 4000000 in
set_option maxRecDepth 100000 in
theorem ref_fault_text (w : World) (e a : Int) (A : Option Addr) (cap : Nat) (ss : List ByteArray) (hr : RdS w w.heap.size A ss) (he : I64 e) (ha : I64 a) (ht : Tab w) (hl : ss.length ≤ 20) (hs : ∀ j, j < ss.length → (ss.getD j ByteArray.empty).size ≤ 100) :
    Calls Tryd.prog 11 #[.agg #[.int .i64 e, .int .i64 a], .slice A ss.length cap] w fun ev w' => ev = .returned (.string (chnT e a (upR ss ss.length))) ∧ Below w.heap.size w w' := by
  have S0 := below_alloc w (.cells #[.int .i64 e, .int .i64 a] 24)
  have B0 := Blk.fresh w 24 #[.int .i64 e, .int .i64 a]
  have hs1 := ita_size a ha.1 ha.2
  have hs2 := numT_size he
  have P1 : ∀ w, (Op.stringOp .add ⟨#[97, 116, 32]⟩ (ita a)).run Tryd.prog w = .ok (.string (⟨#[97, 116, 32]⟩ ++ ita a)) w := fun w => run_string_add_sum (P := Tryd.prog) (w := w) _ _ (by show 3 + _ ≤ _; omega)
  have P2 : ∀ w, (Op.stringOp .add (⟨#[97, 116, 32]⟩ ++ ita a) ⟨#[58, 32]⟩).run Tryd.prog w = .ok (.string (⟨#[97, 116, 32]⟩ ++ ita a ++ ⟨#[58, 32]⟩)) w := fun w => run_string_add_sum (P := Tryd.prog) (w := w) _ _ (by rw [ByteArray.size_append]; show 3 + _ + 2 ≤ _; omega)
  have P3 : ∀ w, (Op.stringOp .add (⟨#[97, 116, 32]⟩ ++ ita a ++ ⟨#[58, 32]⟩) (numT e)).run Tryd.prog w = .ok (.string (fltT e a)) w := fun w => run_string_add_sum (P := Tryd.prog) (w := w) _ _ (by rw [ByteArray.size_append, ByteArray.size_append]; show 3 + _ + 2 + _ ≤ _; omega)
  clear hs1 hs2
  generalize hA1 : (⟨#[97, 116, 32]⟩ : ByteArray) ++ ita a = X1 at *
  generalize hA2 : X1 ++ (⟨#[58, 32]⟩ : ByteArray) = X2 at *
  clear hA1 hA2
  have HRS := Lib.hid (fun W (hW : Below w.heap.size w W) => hr.below hW)
  have HT := Lib.hid (fun W (hW : Below w.heap.size w W) => ht.on hW)
  have HS := Lib.hid hs
  have c0 := B0.cell 0
  have c1 := B0.cell 1
  have HS0 := Lib.hid S0
  clear hr ht hs S0 B0
  go_enter Tryd.func11, Tryd.ntmps11
  go_wp2_with fail
  generalize hw1 : w.alloc (.cells #[.int .i64 e, .int .i64 a] 24) = w1 at *
  clear hw1
  have k0 := cell_regrown c0
  have k1 := cell_regrown c1
  have K1 := Lib.hid (fun dq os => Calls.regrown_of ((ref_text_all a ha.1 ha.2 (grow (redrawn w1 dq) os)).mono fun ev w' h => (⟨h.1, by rw [h.2]; exact Below.refl _ _⟩ : ev = .returned (.string (ita a)) ∧ Below (grow (redrawn w1 dq) os).heap.size (grow (redrawn w1 dq) os) w')))
  have K2 := Lib.hid (fun dq os => Calls.regrown_of (num_text e he (grow (redrawn w1 dq) os) (HT.out _ (HS0.out.trans ((below_regrown w1 dq os).mono HS0.out.size)))))
  refine wp_region_quiet_below (by kernel_rfl) (by kernel_rfl) ?_
  repeat (quiet_step (first | exact K1.out _ _ | exact K2.out _ _))
  refine wpQuiet_nil ?_
  intro _ hw'
  obtain ⟨⟨dq, osq⟩, hw''⟩ := hw'
  subst hw''
  have HS1 := Lib.hid (HS0.out.trans ((below_regrown w1 dq osq).mono HS0.out.size))
  generalize grow (redrawn w1 dq) osq = w2 at *
  clear k0 k1 K1 K2 c0 c1 P1 P2 P3 HS0
  go_wp2_with fail
  go_loop [5, 6] (fun t i => ∃ k : Nat, k ≤ ss.length ∧ i = .int .i64 k ∧ t = .string (chnT e a (upR ss k))) (fun _ i => ss.length - (intOf i).toNat)
  case atStart => exact ⟨0, by omega, rfl, rfl⟩
  case round =>
    obtain ⟨k, hk, rfl, rfl⟩ := hrel
    by_cases hlt : k < ss.length
    · obtain ⟨b, o, rfl, hb, c0⟩ := (HRS.out w2 HS1.out).get hlt
      have hz := HS.out k hlt
      have hT := chnT_size he ha (upR_small (fun j hj => HS.out j (by omega)) hk)
      have hR := upR_len ss k
      have HU := Lib.hid (upR_succ hlt)
      have P1 : ∀ w, (Op.stringOp .add (ss.getD k ByteArray.empty) ⟨#[58, 32]⟩).run Tryd.prog w = .ok (.string (ss.getD k ByteArray.empty ++ colon)) w := fun w => run_string_add_sum (P := Tryd.prog) (w := w) _ _ (by show _ + 2 ≤ _; omega)
      have P2 : ∀ w, (Op.stringOp .add (ss.getD k ByteArray.empty ++ colon) (chnT e a (upR ss k))).run Tryd.prog w = .ok (.string (ss.getD k ByteArray.empty ++ colon ++ chnT e a (upR ss k))) w := fun w => run_string_add_sum (P := Tryd.prog) (w := w) _ _ (by rw [ByteArray.size_append]; show _ + 2 + _ ≤ _; omega)
      clear hz hT hR
      generalize ss.getD k ByteArray.empty = t at *
      generalize ht2 : t ++ colon = t2 at *
      have HT2 := Lib.hid ht2
      clear ht2
      go_wp2_with fail
      go_round
      case rel => exact ⟨k + 1, by omega, by go_num, by rw [HU.out, chnT, HT2.out]⟩
      case measure => simp [intOf]; omega
    · obtain rfl : k = ss.length := by omega
      go_wp2_with fail
      go_ret
      exact ⟨rfl, HS1.out⟩
end Go.Proofs.YtabmckjlmpajoaaDoor
