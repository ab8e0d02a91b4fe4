/- Package ullageref08: Check. -/
import Derived.Test.YtbecflehidcbdaaKBI
import Derived.Test.YtbecflehidcbdaaKAA
import Derived.Carry
namespace Go.Proofs.Ytbecflehidcbdaa
open Go.RowKit

set_option maxRecDepth 100000 in
set_option maxHeartbeats 4000000 in
theorem ref_Check (x : It) (A : Option Addr) (cap n : Nat) (w : World) (hc : x.count ≤ 1099511627775) (hn : n ≤ w.heap.size) (h : AtB w n x A cap)
    (hf : ∀ t, t ∈ its x 1 → 0 ≤ t.n ∧ t.n < 18446744073709551616 ∧ t.s.size ≤ 1000000000 ∧ t.count ≤ 1099511627776) :
    Calls Try.prog 13 #[vI x A cap] w fun e w' => e = .returned (.int .i64 (checkR wrongI x)) ∧ Below w.heap.size w w' := by
  obtain ⟨w1, hw1, b1, S⟩ := iblk1 w 25 #[.int .i64 x.k, .int .u64 x.n, .string x.s, .slice A x.l.length cap]
  obtain ⟨p0, p1, p2, p3, -⟩ := iblk b1
  have CD := fun w' (hb : Below w.heap.size w w') => ref_Depth x A cap n w' hc (Nat.le_trans hn hb.size) (h.keep (hb.mono hn))
  have C2 := fun w' (hb : Below w.heap.size w w') => ref_Items x.count x A cap n 1 w' (Nat.le_refl _) (by omega) (Nat.le_trans hn hb.size) (h.keep (hb.mono hn))
  have HW := Lib.hid (fun t A cap W (ht : t ∈ its x 1) (hv : AtV W t A cap) => ref_wrong t A cap W (hf t ht).1 (hf t ht).2.1 (hf t ht).2.2.1 (hf t ht).2.2.2 hv)
  have hL : RowKit.Hid ((its x 1).length = x.count) := Lib.hid (length_its x 1)
  have HML := Lib.hid (fun _ : Unit => (show (x.count : Int) < 1099511627776 by omega))
  obtain ⟨dp, hdp⟩ : ∃ d, x.depth = d := ⟨_, rfl⟩
  rw [hdp] at CD
  have HDP := Lib.hid hdp
  obtain ⟨r, hr⟩ : ∃ r, checkR wrongI x = r := ⟨_, rfl⟩
  rw [hr]
  have HR := Lib.hid hr
  have HC2 := Lib.hid C2
  have HCD := Lib.hid CD
  have HS := Lib.hid S
  have HN := Lib.hid hn
  clear CD C2 S h hc hn b1 hf hdp hr
  simp only [vI] at HC2 HCD HW ⊢
  go_enter Try.func13, Try.ntmps13
  by_cases h64 : 64 < dp
  · have h64I : (64 : Int) < dp := by omega

    go_wp2_with (go_at_call 10; refine (HCD.out _ HS.out).mono ?_; rintro e w2 ⟨rfl, hb2⟩; have HB2 := Lib.hid (HS.out.trans (hb2.mono HS.out.size)); clear hb2)
    go_ret
    exact ⟨by rw [← HR.out, checkR, HDP.out, if_pos h64]; rfl, HB2.out⟩
  · have h64I : ¬ (64 : Int) < dp := by omega
    go_wp2_with (first
      | (go_at_call 10; refine (HCD.out _ HS.out).mono ?_; rintro e w2 ⟨rfl, hb2⟩; have p0' := (hb2.cell (p := ⟨w.heap.size, 0, none⟩) (block_lt_of_cell p0)).trans p0; have p1' := (hb2.cell (p := ⟨w.heap.size, 1, none⟩) (block_lt_of_cell p1)).trans p1; have p2' := (hb2.cell (p := ⟨w.heap.size, 2, none⟩) (block_lt_of_cell p2)).trans p2; have p3' := (hb2.cell (p := ⟨w.heap.size, 3, none⟩) (block_lt_of_cell p3)).trans p3; have HB2 := Lib.hid (HS.out.trans (hb2.mono HS.out.size)); clear hb2)
      | (go_at_call 7; refine (HC2.out _ HB2.out).mono ?_; rintro e w3 ⟨v1, v2, rfl, hp, hb3⟩; have HB3 := Lib.hid (HB2.out.trans (hb3.mono HB2.out.size)); have HO := Lib.hid hp.1; clear hb3 hp))
    clear p0 p1 p2 p3 p0' p1' p2' p3' hw1 HC2 HCD
    have HRR : RowKit.Hid (r = firstErr ((its x 1).map wrongI)) := Lib.hid (by rw [← HR.out, checkR, HDP.out, if_neg h64, its, List.map_map]; rfl)
    have hpos : 0 < (its x 1).length := by rw [hL.out]; exact count_pos x
    generalize its x 1 = L at *
    obtain ⟨g, cap1, rfl, hle, -, hgB, hgl⟩ := HO.out.form hpos
    obtain ⟨m, hm⟩ : ∃ m, L.length = m := ⟨_, rfl⟩
    rw [hm] at hle hpos ⊢
    have HM := Lib.hid hm
    have HG := Lib.hid (And.intro hgB hgl)
    have HO' : RowKit.Hid (OwnI w3 n w2.heap.size (.slice (some ⟨g, 0, none⟩) L.length cap1) L) := HO
    have HMB : RowKit.Hid (∀ _ : Unit, (m : Int) < 1099511627776) := Lib.hid fun _ => by have h1 := HML.out (); have h2 := hL.out; rw [hm] at h2; rw [h2]; exact h1
    clear HO hm hle hgB hgl hpos
    go_loopw [5] (fun i wr => ∃ j : Nat, j ≤ m ∧ i = .int .i64 (j : Int) ∧ RowKit.Hid (Below w3.heap.size w3 wr) ∧ RowKit.Hid (∀ e ∈ (L.take j).map wrongI, e = 0)) (fun i _ => m - (intOf i).toNat)
    case atStart => exact ⟨0, by omega, rfl, Lib.hid (Below.refl _ _), Lib.hid (by simp)⟩
    case round =>
      obtain ⟨j, hj, rfl, HB, HZ⟩ := hrel
      by_cases hlt : j < m
      · have hltI : (j : Int) < m := by omega
        have e1 : wrap64 ((j : Int) + 1) = (j : Int) + 1 := by have := HMB.out (); unfold wrap64; omega
        obtain ⟨X, A', cap', hX, mX, x0, x1, x2, x3, hv⟩ := (HO'.out.keepB HB.out (Nat.le_trans HN.out HB3.out.size)).item (i := j) (by rw [HM.out]; exact hlt)
        have C := HW.out X A' cap' wr mX hv.toV
        obtain ⟨z, hz⟩ : ∃ z, wrongI X = z := ⟨_, rfl⟩
        rw [hz] at C
        have HZZ := Lib.hid hz
        have HC := Lib.hid C
        have HX := Lib.hid hX
        clear C hz hv hX mX
        by_cases hz0 : z = 0
        · subst hz0
          go_wp2_with (go_at_call 23; refine HC.out.mono ?_; rintro e w5 ⟨rfl, hb5⟩; have HB5 := Lib.hid (HB.out.trans (hb5.mono HB.out.size)); clear hb5)
          rw [e1]
          go_roundw
          case rel =>
            refine ⟨j + 1, by omega, by simp, HB5, Lib.hid ?_⟩
            rw [(take_at HX.out).1, List.map_append]
            intro e he
            rcases List.mem_append.1 he with he | he
            · exact HZ.out e he
            · simp only [List.map_cons, List.map_nil, List.mem_singleton] at he
              rw [he, HZZ.out]
          case measure => simp [intOf]; omega
        · go_wp2_with (go_at_call 23; refine HC.out.mono ?_; rintro e w5 ⟨rfl, hb5⟩; have HB5 := Lib.hid (HB.out.trans (hb5.mono HB.out.size)); clear hb5)
          go_ret
          refine ⟨?_, HB3.out.trans (HB5.out.mono HB3.out.size)⟩
          have hs : L = L.take j ++ (X :: L.drop (j + 1)) := by
            have := (take_at HX.out).1
            conv => lhs; rw [← List.take_append_drop (j + 1) L, this]
            simp
          rw [HRR.out, hs, List.map_append, firstErr_append_zero HZ.out, List.map_cons, firstErr, HZZ.out, if_pos hz0]
          rfl
      · have hltI : ¬ (j : Int) < m := by omega
        obtain rfl : j = m := by omega
        go_wp2_with fail
        go_ret
        have h0 := HZ.out
        rw [← HM.out, List.take_length] at h0
        exact ⟨by rw [HRR.out, firstErr_all h0]; rfl, HB3.out.trans (HB.out.mono HB3.out.size)⟩
end Go.Proofs.Ytbecflehidcbdaa

/- The frame of every law's proof: what is left is that the call returns true and turns nothing that was there. -/
namespace Go.Proofs.Ytbecflehidcbdaa
open Go.ChangeShapes Go.WideShapes Go.ChangeAt Go.RowKit

section
variable {H : Type} {enc : TypeId × Value → H} {P : Program} {W W' : World}
/-- Arguments read as they did where below the heap's old size nothing has turned. -/
theorem args_stay (hl : laidOutB P = true) (hb : Below W.heap.size W W') : ∀ (ts : List TypeId) (vs : List Value) (ds : List (DataW H)) (ps : List MemPlace),
    (ts.all fun t => P.readableRec t && decide (t < P.types.size)) = true → (∀ p ∈ ps, p.block < W.heap.size) →
    DataW.TrodAll enc P W 0 (fun _ => true) true ts vs ds ps → DataW.TrodAll enc P W' 0 (fun b => decide (b < W.heap.size)) true ts vs ds ps
  | [], vs, ds, ps, _, _, h => by
    obtain ⟨rfl, rfl, rfl⟩ := trodAll_nil h
    exact trodAll_mk0
  | t :: ts, vs, ds, ps, ht, hp, h => by
    obtain ⟨v, vs', d, ds', p, q, rfl, rfl, rfl, hd, hr⟩ := trodAll_cons h
    simp only [List.all_cons, Bool.and_eq_true, decide_eq_true_eq] at ht
    have ha := Below.trod hl ht.1.1 ht.1.2 hd hb (fun x hx => hp x (List.mem_append_left _ hx))
    exact trodAll_cons_mk ha (args_stay hl hb ts vs' ds' q (by simpa using ht.2) (fun x hx => hp x (List.mem_append_right _ hx)) hr)

/-- What a law's row asks behind the call. -/
theorem law_post {f : Func} {s : ChangeSpec} {args : Array Value} {ds gs : List (DataW H)} {before : List MemPlace} {tb : TypeId}
    (hl : laidOutB P = true) (ht : (f.params.toList.all fun t => P.readableRec t && decide (t < P.types.size)) = true) (hv : s.vars = [])
    (hr : f.resultTypes = #[tb]) (hu : P.underlying tb = some .bool)
    (hres : (s.fn H (ds ++ gs)).results = [.lit (.bool true)]) (hargs : (s.fn H (ds ++ gs)).args = ds) (hvars : (s.fn H (ds ++ gs)).vars = [])
    (hW : DataW.Whole enc P f.params.toList s.vars false W args.toList ds gs before) (hb : Below W.heap.size W W') :
    s.post enc P f false true false false W args (.bool true) W' := by
  have hlt := hW.lt
  have hW' := hW
  obtain ⟨p, q, hA, hV, hpq, _, _⟩ := hW
  rw [hv] at hV
  obtain ⟨rfl, rfl⟩ := trodVars_none hV
  rw [List.append_nil] at hpq
  subst hpq
  refine ⟨ds, [], before, [], before, [], hW', ?_, ?_, ?_, World.keptBut_mono (fun x hx => ⟨hx, Or.inr (Or.inl hx)⟩) (hb.frame (· ∈ before)), fun h => by cases h⟩
  · rw [hres, hr]
    exact trodAll_mk1 (shut_bool hu true)
  · rw [hargs]
    exact args_stay hl hb _ _ _ _ ht hlt hA
  · rw [hv, hvars]
    rfl

/-- A slice of integers that came in. -/
theorem open_nums {t e : TypeId} {k : IntKind} {b0 : Nat} {v : Value} {d : DataW H} {ps : List MemPlace} (ht : P.underlying t = some (.slice e)) (he : P.underlying e = some (.int k)) (hc : P.cellsOf e = 1)
    (hval : Value.okWide P W .any b0 t v) (hd : DataW.Trod enc P W 0 (fun _ => true) true t v d ps) (hlt : ∀ x ∈ ps, x.block < W.heap.size) :
    ∃ (A : Option Addr) (cap : Nat) (zs : List Int), v = .slice A zs.length cap ∧ zs.length ≤ 9223372036854775807 ∧ Rd W W.heap.size k A zs ∧ ∀ n ∈ zs, (Lit.int k n).wf = true := by
  obtain ⟨a0, len, cap, rfl⟩ := okWide_slice ht hval
  obtain ⟨fuel, hf⟩ := hd
  rcases open_ints ht he hc hf with ⟨hcs, hx⟩ | ⟨a, len', cap', zs, hcs, _, hl, hm, hz, hx, hcell, hwz⟩
  · simp [Value.cells] at hcs
    obtain ⟨rfl, rfl, rfl⟩ := hcs
    exact ⟨none, 0, [], rfl, by decide, fun h => absurd h (by simp), by simp⟩
  · simp [Value.cells] at hcs
    obtain ⟨rfl, rfl, rfl⟩ := hcs
    simp only [Prod.mk.injEq] at hx
    obtain ⟨rfl, rfl⟩ := hx
    simp only [if_true] at hz
    unfold maxLen at hm
    have hlen : (zs.take len).length = len := by rw [List.length_take]; omega
    refine ⟨some a, cap, zs.take len, by rw [hlen], by rw [hlen]; omega, fun hpos => ?_, fun n hn => hwz n (List.mem_of_mem_take hn)⟩
    rw [hlen] at hpos
    have h0 := hcell 0 (by omega)
    obtain ⟨b, off, spot⟩ := a
    have hspot : spot = none := by simpa [Addr.add] using World.cell?_spot h0
    subst hspot
    refine ⟨b, off, rfl, ?_, fun i hi => ?_⟩
    · have := hlt (.cell b off) (MemPlace.mem_row.2 ⟨0, by omega, by simp⟩)
      exact this
    · rw [hlen] at hi
      rw [← add_plain, hcell i (by omega)]
      congr 2
      simp [List.getD_eq_getElem?_getD, hi]
/-- A slice of integers that came in; its capacity too. -/
theorem open_nums' {t e : TypeId} {k : IntKind} {b0 : Nat} {v : Value} {d : DataW H} {ps : List MemPlace} (ht : P.underlying t = some (.slice e)) (he : P.underlying e = some (.int k)) (hc : P.cellsOf e = 1)
    (hval : Value.okWide P W .any b0 t v) (hd : DataW.Trod enc P W 0 (fun _ => true) true t v d ps) (hlt : ∀ x ∈ ps, x.block < W.heap.size) :
    ∃ (A : Option Addr) (cap : Nat) (zs : List Int), v = .slice A zs.length cap ∧ zs.length ≤ 9223372036854775807 ∧ zs.length ≤ cap ∧ (A = none → cap = 0) ∧ Rd W W.heap.size k A zs ∧ ∀ n ∈ zs, (Lit.int k n).wf = true := by
  obtain ⟨a0, len, cap, rfl⟩ := okWide_slice ht hval
  obtain ⟨fuel, hf⟩ := hd
  rcases open_ints ht he hc hf with ⟨hcs, hx⟩ | ⟨a, len', cap', zs, hcs, _, hl, hm, hz, hx, hcell, hwz⟩
  · simp [Value.cells] at hcs
    obtain ⟨rfl, rfl, rfl⟩ := hcs
    exact ⟨none, 0, [], rfl, by decide, by decide, fun _ => rfl, fun h => absurd h (by simp), by simp⟩
  · simp [Value.cells] at hcs
    obtain ⟨rfl, rfl, rfl⟩ := hcs
    simp only [Prod.mk.injEq] at hx
    obtain ⟨rfl, rfl⟩ := hx
    simp only [if_true] at hz
    unfold maxLen at hm
    have hlen : (zs.take len).length = len := by rw [List.length_take]; omega
    refine ⟨some a, cap, zs.take len, by rw [hlen], by rw [hlen]; omega, by rw [hlen]; exact hl, fun h => (by cases h), fun hpos => ?_, fun n hn => hwz n (List.mem_of_mem_take hn)⟩
    rw [hlen] at hpos
    have h0 := hcell 0 (by omega)
    obtain ⟨b, off, spot⟩ := a
    have hspot : spot = none := by simpa [Addr.add] using World.cell?_spot h0
    subst hspot
    refine ⟨b, off, rfl, ?_, fun i hi => ?_⟩
    · have := hlt (.cell b off) (MemPlace.mem_row.2 ⟨0, by omega, by simp⟩)
      exact this
    · rw [hlen] at hi
      rw [← add_plain, hcell i (by omega)]
      congr 2
      simp [List.getD_eq_getElem?_getD, hi]
end
end Go.Proofs.Ytbecflehidcbdaa
