/- Package ullageref08: Check. -/
import Derived.Test.YtgcgidoikpbfpaaGreatKBC
import Derived.Test.YtgcgidoikpbfpaaGreatKAB
import Derived.Carry
import Derived.Test.YtgcgidoikpbfpaaGreatKAR
import Derived.Test.YtgcgidoikpbfpaaGreatRows
import Derived.Lib.SmallJoins
import Derived.Deep.Slices
namespace Go.Proofs.YtgcgidoikpbfpaaGreat
open Go.RowKit

set_option maxRecDepth 100000 in
set_option maxHeartbeats 4000000 in
theorem ref_Check (x : It) (A : Option Addr) (cap n : Nat) (w : World) (hc : x.count ≤ 1099511627775) (hn : n ≤ w.heap.size) (h : AtB w n x A cap)
    (hf : ∀ t, t ∈ its x 1 → 0 ≤ t.n ∧ t.n < 18446744073709551616 ∧ t.s.size ≤ 1000000000 ∧ t.count ≤ 1099511627776) :
    Calls Tryz.prog 6 #[vI x A cap] w fun e w' => e = .returned (.int .i64 (checkR wrongI x)) ∧ Below w.heap.size w w' := by
  obtain ⟨w1, hw1, b1, S⟩ := iblk1 w 25 #[.int .i64 x.k, .int .u64 x.n, .string x.s, .slice A x.l.length cap]
  obtain ⟨p0, p1, p2, p3, -⟩ := iblk b1
  have CD := fun w' (hb : Below w.heap.size w w') => ref_Depth x A cap n w' hc (Nat.le_trans hn hb.size) (h.keep (hb.mono hn))
  have C2 := fun w' (hb : Below w.heap.size w w') => ref_Items x.count x A cap n 1 w' (Nat.le_refl _) (by omega) (Nat.le_trans hn hb.size) (h.keep (hb.mono hn))
  have HW := Lib.hid (fun t A cap W (ht : t ∈ its x 1) (hv : AtV W t A cap) => ref_wrong t A cap W (hf t ht).1 (hf t ht).2.1 (hf t ht).2.2.1 (hf t ht).2.2.2 hv)
  have hL : RowKit.Hid ((its x 1).length = x.count) := Lib.hid (length_its x 1)
  have HML := Lib.hid (fun _ : Unit => (show (x.count : Int) < 1099511627776 by omega))
  obtain ⟨dp, hdp⟩ : ∃ d, x.depth = d := ⟨_, rfl⟩
  rw [hdp] at CD
  have HDP := Lib.hid hdp
  obtain ⟨r, hr⟩ : ∃ r, checkR wrongI x = r := ⟨_, rfl⟩
  rw [hr]
  have HR := Lib.hid hr
  have HC2 := Lib.hid C2
  have HCD := Lib.hid CD
  have HS := Lib.hid S
  have HN := Lib.hid hn
  clear CD C2 S h hc hn b1 hf hdp hr
  simp only [vI] at HC2 HCD HW ⊢
  go_enter Tryz.func6, Tryz.ntmps6
  by_cases h64 : 64 < dp
  · have h64I : (64 : Int) < dp := by omega

    go_wp2_with (go_at_call 16; refine (HCD.out _ HS.out).mono ?_; rintro e w2 ⟨rfl, hb2⟩; have HB2 := Lib.hid (HS.out.trans (hb2.mono HS.out.size)); clear hb2)
    go_ret
    exact ⟨by rw [← HR.out, checkR, HDP.out, if_pos h64]; rfl, HB2.out⟩
  · have h64I : ¬ (64 : Int) < dp := by omega
    go_wp2_with (first
      | (go_at_call 16; refine (HCD.out _ HS.out).mono ?_; rintro e w2 ⟨rfl, hb2⟩; have p0' := (hb2.cell (p := ⟨w.heap.size, 0, none⟩) (block_lt_of_cell p0)).trans p0; have p1' := (hb2.cell (p := ⟨w.heap.size, 1, none⟩) (block_lt_of_cell p1)).trans p1; have p2' := (hb2.cell (p := ⟨w.heap.size, 2, none⟩) (block_lt_of_cell p2)).trans p2; have p3' := (hb2.cell (p := ⟨w.heap.size, 3, none⟩) (block_lt_of_cell p3)).trans p3; have HB2 := Lib.hid (HS.out.trans (hb2.mono HS.out.size)); clear hb2)
      | (go_at_call 15; refine (HC2.out _ HB2.out).mono ?_; rintro e w3 ⟨v1, v2, rfl, hp, hb3⟩; have HB3 := Lib.hid (HB2.out.trans (hb3.mono HB2.out.size)); have HO := Lib.hid hp.1; clear hb3 hp))
    clear p0 p1 p2 p3 p0' p1' p2' p3' hw1 HC2 HCD
    have HRR : RowKit.Hid (r = firstErr ((its x 1).map wrongI)) := Lib.hid (by rw [← HR.out, checkR, HDP.out, if_neg h64, its, List.map_map]; rfl)
    have hpos : 0 < (its x 1).length := by rw [hL.out]; exact count_pos x
    generalize its x 1 = L at *
    obtain ⟨g, cap1, rfl, hle, -, hgB, hgl⟩ := HO.out.form hpos
    obtain ⟨m, hm⟩ : ∃ m, L.length = m := ⟨_, rfl⟩
    rw [hm] at hle hpos ⊢
    have HM := Lib.hid hm
    have HG := Lib.hid (And.intro hgB hgl)
    have HO' : RowKit.Hid (OwnI w3 n w2.heap.size (.slice (some ⟨g, 0, none⟩) L.length cap1) L) := HO
    have HMB : RowKit.Hid (∀ _ : Unit, (m : Int) < 1099511627776) := Lib.hid fun _ => by have h1 := HML.out (); have h2 := hL.out; rw [hm] at h2; rw [h2]; exact h1
    clear HO hm hle hgB hgl hpos
    go_loopw [5] (fun i wr => ∃ j : Nat, j ≤ m ∧ i = .int .i64 (j : Int) ∧ RowKit.Hid (Below w3.heap.size w3 wr) ∧ RowKit.Hid (∀ e ∈ (L.take j).map wrongI, e = 0)) (fun i _ => m - (intOf i).toNat)
    case atStart => exact ⟨0, by omega, rfl, Lib.hid (Below.refl _ _), Lib.hid (by simp)⟩
    case round =>
      obtain ⟨j, hj, rfl, HB, HZ⟩ := hrel
      by_cases hlt : j < m
      · have hltI : (j : Int) < m := by omega
        have e1 : wrap64 ((j : Int) + 1) = (j : Int) + 1 := by have := HMB.out (); unfold wrap64; omega
        obtain ⟨X, A', cap', hX, mX, x0, x1, x2, x3, hv⟩ := (HO'.out.keepB HB.out (Nat.le_trans HN.out HB3.out.size)).item (i := j) (by rw [HM.out]; exact hlt)
        have C := HW.out X A' cap' wr mX hv.toV
        obtain ⟨z, hz⟩ : ∃ z, wrongI X = z := ⟨_, rfl⟩
        rw [hz] at C
        have HZZ := Lib.hid hz
        have HC := Lib.hid C
        have HX := Lib.hid hX
        clear C hz hv hX mX
        by_cases hz0 : z = 0
        · subst hz0
          go_wp2_with (go_at_call 17; refine HC.out.mono ?_; rintro e w5 ⟨rfl, hb5⟩; have HB5 := Lib.hid (HB.out.trans (hb5.mono HB.out.size)); clear hb5)
          rw [e1]
          go_roundw
          case rel =>
            refine ⟨j + 1, by omega, by simp, HB5, Lib.hid ?_⟩
            rw [(take_at HX.out).1, List.map_append]
            intro e he
            rcases List.mem_append.1 he with he | he
            · exact HZ.out e he
            · simp only [List.map_cons, List.map_nil, List.mem_singleton] at he
              rw [he, HZZ.out]
          case measure => simp [intOf]; omega
        · go_wp2_with (go_at_call 17; refine HC.out.mono ?_; rintro e w5 ⟨rfl, hb5⟩; have HB5 := Lib.hid (HB.out.trans (hb5.mono HB.out.size)); clear hb5)
          go_ret
          refine ⟨?_, HB3.out.trans (HB5.out.mono HB3.out.size)⟩
          have hs : L = L.take j ++ (X :: L.drop (j + 1)) := by
            have := (take_at HX.out).1
            conv => lhs; rw [← List.take_append_drop (j + 1) L, this]
            simp
          rw [HRR.out, hs, List.map_append, firstErr_append_zero HZ.out, List.map_cons, firstErr, HZZ.out, if_pos hz0]
          rfl
      · have hltI : ¬ (j : Int) < m := by omega
        obtain rfl : j = m := by omega
        go_wp2_with fail
        go_ret
        have h0 := HZ.out
        rw [← HM.out, List.take_length] at h0
        exact ⟨by rw [HRR.out, firstErr_all h0]; rfl, HB3.out.trans (HB.out.mono HB3.out.size)⟩
end Go.Proofs.YtgcgidoikpbfpaaGreat

/- The frame of every law's proof: what is left is that the call returns true and turns nothing that was there. -/
namespace Go.Proofs.YtgcgidoikpbfpaaGreat
open Go.ChangeShapes Go.WideShapes Go.ChangeAt Go.RowKit

section
variable {H : Type} {enc : TypeId × Value → H} {P : Program} {W W' : World}
/-- Arguments read as they did where below the heap's old size nothing has turned. -/
theorem args_stay (hl : laidOutB P = true) (hb : Below W.heap.size W W') : ∀ (ts : List TypeId) (vs : List Value) (ds : List (DataW H)) (ps : List MemPlace),
    (ts.all fun t => P.readableRec t && decide (t < P.types.size)) = true → (∀ p ∈ ps, p.block < W.heap.size) →
    DataW.TrodAll enc P W 0 (fun _ => true) true ts vs ds ps → DataW.TrodAll enc P W' 0 (fun b => decide (b < W.heap.size)) true ts vs ds ps
  | [], vs, ds, ps, _, _, h => by
    obtain ⟨rfl, rfl, rfl⟩ := trodAll_nil h
    exact trodAll_mk0
  | t :: ts, vs, ds, ps, ht, hp, h => by
    obtain ⟨v, vs', d, ds', p, q, rfl, rfl, rfl, hd, hr⟩ := trodAll_cons h
    simp only [List.all_cons, Bool.and_eq_true, decide_eq_true_eq] at ht
    have ha := Below.trod hl ht.1.1 ht.1.2 hd hb (fun x hx => hp x (List.mem_append_left _ hx))
    exact trodAll_cons_mk ha (args_stay hl hb ts vs' ds' q (by simpa using ht.2) (fun x hx => hp x (List.mem_append_right _ hx)) hr)

/-- What a law's row asks behind the call. -/
theorem law_post {f : Func} {s : ChangeSpec} {args : Array Value} {ds gs : List (DataW H)} {before : List MemPlace} {tb : TypeId}
    (hl : laidOutB P = true) (ht : (f.params.toList.all fun t => P.readableRec t && decide (t < P.types.size)) = true) (hv : s.vars = [])
    (hr : f.resultTypes = #[tb]) (hu : P.underlying tb = some .bool)
    (hres : (s.fn H (ds ++ gs)).results = [.lit (.bool true)]) (hargs : (s.fn H (ds ++ gs)).args = ds) (hvars : (s.fn H (ds ++ gs)).vars = [])
    (hW : DataW.Whole enc P f.params.toList s.vars false W args.toList ds gs before) (hb : Below W.heap.size W W') :
    s.post enc P f false true false false W args (.bool true) W' := by
  have hlt := hW.lt
  have hW' := hW
  obtain ⟨p, q, hA, hV, hpq, _, _⟩ := hW
  rw [hv] at hV
  obtain ⟨rfl, rfl⟩ := trodVars_none hV
  rw [List.append_nil] at hpq
  subst hpq
  refine ⟨ds, [], before, [], before, [], hW', ?_, ?_, ?_, World.keptBut_mono (fun x hx => ⟨hx, Or.inr (Or.inl hx)⟩) (hb.frame (· ∈ before)), fun h => by cases h⟩
  · rw [hres, hr]
    exact trodAll_mk1 (shut_bool hu true)
  · rw [hargs]
    exact args_stay hl hb _ _ _ _ ht hlt hA
  · rw [hv, hvars]
    rfl

/-- A slice of integers that came in. -/
theorem open_nums {t e : TypeId} {k : IntKind} {b0 : Nat} {v : Value} {d : DataW H} {ps : List MemPlace} (ht : P.underlying t = some (.slice e)) (he : P.underlying e = some (.int k)) (hc : P.cellsOf e = 1)
    (hval : Value.okWide P W .any b0 t v) (hd : DataW.Trod enc P W 0 (fun _ => true) true t v d ps) (hlt : ∀ x ∈ ps, x.block < W.heap.size) :
    ∃ (A : Option Addr) (cap : Nat) (zs : List Int), v = .slice A zs.length cap ∧ zs.length ≤ 9223372036854775807 ∧ Rd W W.heap.size k A zs ∧ ∀ n ∈ zs, (Lit.int k n).wf = true := by
  obtain ⟨a0, len, cap, rfl⟩ := okWide_slice ht hval
  obtain ⟨fuel, hf⟩ := hd
  rcases open_ints ht he hc hf with ⟨hcs, hx⟩ | ⟨a, len', cap', zs, hcs, _, hl, hm, hz, hx, hcell, hwz⟩
  · simp [Value.cells] at hcs
    obtain ⟨rfl, rfl, rfl⟩ := hcs
    exact ⟨none, 0, [], rfl, by decide, fun h => absurd h (by simp), by simp⟩
  · simp [Value.cells] at hcs
    obtain ⟨rfl, rfl, rfl⟩ := hcs
    simp only [Prod.mk.injEq] at hx
    obtain ⟨rfl, rfl⟩ := hx
    simp only [if_true] at hz
    unfold maxLen at hm
    have hlen : (zs.take len).length = len := by rw [List.length_take]; omega
    refine ⟨some a, cap, zs.take len, by rw [hlen], by rw [hlen]; omega, fun hpos => ?_, fun n hn => hwz n (List.mem_of_mem_take hn)⟩
    rw [hlen] at hpos
    have h0 := hcell 0 (by omega)
    obtain ⟨b, off, spot⟩ := a
    have hspot : spot = none := by simpa [Addr.add] using World.cell?_spot h0
    subst hspot
    refine ⟨b, off, rfl, ?_, fun i hi => ?_⟩
    · have := hlt (.cell b off) (MemPlace.mem_row.2 ⟨0, by omega, by simp⟩)
      exact this
    · rw [hlen] at hi
      rw [← add_plain, hcell i (by omega)]
      congr 2
      simp [List.getD_eq_getElem?_getD, hi]
/-- A slice of integers that came in; its capacity too. -/
theorem open_nums' {t e : TypeId} {k : IntKind} {b0 : Nat} {v : Value} {d : DataW H} {ps : List MemPlace} (ht : P.underlying t = some (.slice e)) (he : P.underlying e = some (.int k)) (hc : P.cellsOf e = 1)
    (hval : Value.okWide P W .any b0 t v) (hd : DataW.Trod enc P W 0 (fun _ => true) true t v d ps) (hlt : ∀ x ∈ ps, x.block < W.heap.size) :
    ∃ (A : Option Addr) (cap : Nat) (zs : List Int), v = .slice A zs.length cap ∧ zs.length ≤ 9223372036854775807 ∧ zs.length ≤ cap ∧ (A = none → cap = 0) ∧ Rd W W.heap.size k A zs ∧ ∀ n ∈ zs, (Lit.int k n).wf = true := by
  obtain ⟨a0, len, cap, rfl⟩ := okWide_slice ht hval
  obtain ⟨fuel, hf⟩ := hd
  rcases open_ints ht he hc hf with ⟨hcs, hx⟩ | ⟨a, len', cap', zs, hcs, _, hl, hm, hz, hx, hcell, hwz⟩
  · simp [Value.cells] at hcs
    obtain ⟨rfl, rfl, rfl⟩ := hcs
    exact ⟨none, 0, [], rfl, by decide, by decide, fun _ => rfl, fun h => absurd h (by simp), by simp⟩
  · simp [Value.cells] at hcs
    obtain ⟨rfl, rfl, rfl⟩ := hcs
    simp only [Prod.mk.injEq] at hx
    obtain ⟨rfl, rfl⟩ := hx
    simp only [if_true] at hz
    unfold maxLen at hm
    have hlen : (zs.take len).length = len := by rw [List.length_take]; omega
    refine ⟨some a, cap, zs.take len, by rw [hlen], by rw [hlen]; omega, by rw [hlen]; exact hl, fun h => (by cases h), fun hpos => ?_, fun n hn => hwz n (List.mem_of_mem_take hn)⟩
    rw [hlen] at hpos
    have h0 := hcell 0 (by omega)
    obtain ⟨b, off, spot⟩ := a
    have hspot : spot = none := by simpa [Addr.add] using World.cell?_spot h0
    subst hspot
    refine ⟨b, off, rfl, ?_, fun i hi => ?_⟩
    · have := hlt (.cell b off) (MemPlace.mem_row.2 ⟨0, by omega, by simp⟩)
      exact this
    · rw [hlen] at hi
      rw [← add_plain, hcell i (by omega)]
      congr 2
      simp [List.getD_eq_getElem?_getD, hi]
end
end Go.Proofs.YtgcgidoikpbfpaaGreat

/- An item that came in: how it reads. -/
namespace Go.Proofs.YtgcgidoikpbfpaaGreat
open Go.ChangeShapes Go.WideShapes Go.ChangeAt Go.RowKit

theorem AtL.of_items {w : World} {S : Nat → Prop} {b : Nat} (hS : S b) (hb : b < w.heap.size) : ∀ (l : List It) (o : Nat), (∀ i X, l[i]? = some X → At1 w S X b (o + i * 4)) → AtL w S l (some ⟨b, o, none⟩)
  | [], _, _ => AtL.nil _
  | t :: r, o, h => AtL.mk hS hb (by simpa using h 0 t rfl) (AtL.of_items hS hb r (o + 4) fun i X hX => by
    have := h (i + 1) X (by simpa using hX)
    rwa [show o + (i + 1) * 4 = o + 4 + i * 4 by omega] at this)
theorem itemsL_mem {p : Nat × It} : ∀ {l : List It} {d : Nat}, p ∈ itemsL l d → ∃ X ∈ l, p ∈ X.items d
  | [], d, h => by simp [itemsL] at h
  | t :: r, d, h => by
    rw [itemsL] at h
    rcases List.mem_append.1 h with h | h
    · exact ⟨t, by simp, h⟩
    · obtain ⟨X, hX, hp⟩ := itemsL_mem h
      exact ⟨X, by simp [hX], hp⟩
/-- An item's numbers and texts are as great as they can be, and it is no greater than N. -/
def okI (N : Nat) (t : It) : Prop := t.count ≤ N ∧ ∀ d p, p ∈ t.items d → 0 ≤ p.2.n ∧ p.2.n < 18446744073709551616 ∧ p.2.s.size ≤ N
theorem countL_bulk {H : Type} : ∀ (ts : List It) (ds : List (DataW H)), ts.length = ds.length → (∀ (i : Nat) (t : It) (d : DataW H), ts[i]? = some t → ds[i]? = some d → t.count ≤ Rows.uptoBulk d) → countL ts ≤ Rows.uptoBulkAll ds
  | [], [], _, _ => by simp [countL]
  | t :: ts, d :: ds, hl, h => by
    have h0 := h 0 t d rfl rfl
    have ih := countL_bulk ts ds (by simpa using hl) fun i t d h1 h2 => h (i + 1) t d (by simpa using h1) (by simpa using h2)
    simp only [countL, Rows.uptoBulkAll]
    omega
theorem bulk_mem {H : Type} {d : DataW H} : ∀ {ds : List (DataW H)}, d ∈ ds → Rows.uptoBulk d ≤ Rows.uptoBulkAll ds
  | x :: ds, h => by
    simp only [Rows.uptoBulkAll]
    rcases List.mem_cons.1 h with rfl | h
    · omega
    · have := bulk_mem h; omega
theorem bulk_one {H : Type} (l : Lit) : 1 ≤ Rows.uptoBulk (DataW.lit (H := H) l) := by cases l <;> simp [Rows.uptoBulk]
section
variable {H : Type} {enc : TypeId × Value → H} {W : World}
set_option maxRecDepth 100000 in
theorem trod_item : ∀ (f : Nat) (cs : List Value) (x : DataW H × List MemPlace), DataW.trod enc Tryz.prog W 0 (fun _ => true) true f 25 cs = some x →
    ∃ t A cap, cs = ic t A cap ∧ AtV W t A cap ∧ okI (Rows.uptoBulk x.1) t := by
  intro f
  induction f using Nat.strongRecOn with
  | _ f IH =>
    intro cs x h
    obtain ⟨xs, m, rfl, rfl, hl, hlen, hf⟩ := DataW.trod_struct Tryz.underlying25 h
    have hC : Tryz.prog.cellsOf 25 = 4 := by kernel_rfl
    rw [hC] at hl
    obtain ⟨c0, c1, c2, c3, rfl⟩ : ∃ c0 c1 c2 c3, cs = [c0, c1, c2, c3] := by
      match cs, hl with
      | [c0, c1, c2, c3], _ => exact ⟨c0, c1, c2, c3, rfl⟩
    obtain ⟨y0, y1, y2, y3, rfl⟩ : ∃ y0 y1 y2 y3, xs = [y0, y1, y2, y3] := by
      match xs, hlen with
      | [y0, y1, y2, y3], _ => exact ⟨y0, y1, y2, y3, rfl⟩
    have g0 := hf 0 _ rfl
    have g1 := hf 1 _ rfl
    have g2 := hf 2 _ rfl
    have g3 := hf 3 _ rfl
    have k0 : Tryz.prog.cellsOf 3 = 1 := by kernel_rfl
    have k1 : Tryz.prog.cellsOf 22 = 1 := by kernel_rfl
    have k2 : Tryz.prog.cellsOf 9 = 1 := by kernel_rfl
    have k3 : Tryz.prog.cellsOf 23 = 1 := by kernel_rfl
    simp [k0, k1, k2, k3] at g0 g1 g2 g3
    obtain ⟨k, e0, rfl, _⟩ := DataW.trod_int Tryz.underlying3 g0
    obtain ⟨n, e1, rfl, hn⟩ := DataW.trod_int Tryz.underlying22 g1
    obtain ⟨s, e2, rfl, _⟩ := DataW.trod_string Tryz.underlying9 g2
    injection e0 with e0
    injection e1 with e1
    injection e2 with e2
    subst e0 e1 e2
    have hn' : 0 ≤ n ∧ n < 18446744073709551616 := by
      simp [Lit.wf, IntKind.min, IntKind.max, IntKind.signed, IntKind.bits] at hn
      omega
    have hb : Rows.uptoBulk (DataW.agg (H := H) [.lit (.int .i64 k), .lit (.int .u64 n), .lit (.string s.data.toList), y3.1]) = s.size + Rows.uptoBulk y3.1 + 4 := by
      simp [Rows.uptoBulk, Rows.uptoBulkAll]
      omega
    suffices Hs : ∃ (l : List It) (A : Option Addr) (cap : Nat), c3 = .slice A l.length cap ∧ l.length ≤ cap ∧ (A = none → cap = 0) ∧ AtL W (fun _ => True) l A ∧ countL l + 1 ≤ Rows.uptoBulk y3.1 ∧
        ∀ d p, p ∈ itemsL l d → 0 ≤ p.2.n ∧ p.2.n < 18446744073709551616 ∧ p.2.s.size ≤ Rows.uptoBulk y3.1 by
      obtain ⟨l, A, cap, rfl, h1, h2, h3, h4, h5⟩ := Hs
      refine ⟨.mk k n s l, A, cap, rfl, ⟨h1, h2, h3⟩, ?_, fun d p hp => ?_⟩
      · simp only [List.map_cons, List.map_nil]
        rw [hb]
        simp only [It.count]
        omega
      · simp only [List.map_cons, List.map_nil]
        rw [hb]
        rw [It.items_eq] at hp
        rcases List.mem_cons.1 hp with rfl | hp
        · exact ⟨hn'.1, hn'.2, by show s.size ≤ _; omega⟩
        · have := h5 _ p hp
          omega
    rcases DataW.trod_slice Tryz.underlying23 g3 with ⟨hcs, hy⟩ | ⟨a, len, cap, elems, rest, q, hq, hcs, hy, _, hle, hm, hel, hall, _, _⟩
    · injection hcs with hcs
      subst hcs
      subst hy
      exact ⟨[], none, 0, rfl, by simp, fun _ => rfl, AtL.nil _, by simp [countL, Rows.uptoBulk], fun d p hp => by simp [itemsL] at hp⟩
    · injection hcs with hcs
      subst hcs
      rw [hC] at hall
      have each : ∀ i, i < len → ∃ z : It × Option Addr × Nat × (DataW H × List MemPlace), elems[i]? = some z.2.2.2 ∧ (∃ cs', W.cells? 0 (a.add (i * 4)) 4 = some cs' ∧ cs' = ic z.1 z.2.1 z.2.2.1) ∧ AtV W z.1 z.2.1 z.2.2.1 ∧ okI (Rows.uptoBulk z.2.2.2.1) z.1 := by
        intro i hi
        have := hall i hi
        rw [List.getElem?_eq_getElem (by omega)] at this
        obtain ⟨cs', h1, h2⟩ := Option.bind_eq_some_iff.1 this
        obtain ⟨t, A, c, h3, h4, h5⟩ := IH q (by omega) cs' _ h2
        exact ⟨(t, A, c, elems[i]), List.getElem?_eq_getElem (by omega), ⟨cs', h1, h3⟩, h4, h5⟩
      obtain ⟨z, hz⟩ := Go.Deep.choose_lt (α := It × Option Addr × Nat × (DataW H × List MemPlace)) each
      have hget : ∀ i X, ((List.range len).map fun i => (z i).1)[i]? = some X → i < len ∧ X = (z i).1 := fun i X hX => by
        rw [List.getElem?_map] at hX
        rcases Nat.lt_or_ge i len with h | h
        · simp [h] at hX
          exact ⟨h, hX.symm⟩
        · rw [List.getElem?_eq_none (by simpa using h)] at hX
          cases hX
      have hbs : Rows.uptoBulkAll (elems.map (·.1)) + 1 ≤ Rows.uptoBulk y3.1 := by
        rw [hy]
        simp only [Rows.uptoBulk]
        omega
      refine ⟨(List.range len).map fun i => (z i).1, some a, cap, by simp, by simpa using hle, (fun h => by cases h), ?_, ?_, ?_⟩
      · by_cases h0 : len = 0
        · subst h0; exact AtL.nil _
        · have cell : ∀ i, i < len → ∀ j u, (ic (z i).1 (z i).2.1 (z i).2.2.1)[j]? = some u → W.cell? (a.add (i * 4 + j)) = some u := fun i hi j u hu => by
            obtain ⟨_, ⟨cs', h1, h2⟩, _⟩ := hz i hi
            obtain ⟨_, hlen', hc⟩ := World.cells?_some h1
            have hj : j < 4 := by
              rcases Nat.lt_or_ge j (ic (z i).1 (z i).2.1 (z i).2.2.1).length with h | h
              · simpa [ic] using h
              · rw [List.getElem?_eq_none h] at hu; cases hu
            have := hc j hj
            rw [Go.Deep.add_add] at this
            rw [this, h2]
            exact hu
          have f0 := cell 0 (by omega) 0 _ rfl
          obtain ⟨b, off, spot⟩ := a
          have hspot : spot = none := by simpa [Addr.add] using World.cell?_spot f0
          subst hspot
          rw [Addr.add_mid] at f0
          refine AtL.of_items trivial (block_lt_of_cell f0) _ off fun i X hX => ?_
          obtain ⟨hi, rfl⟩ := hget i X hX
          obtain ⟨_, _, hv, _⟩ := hz i hi
          have e0 := cell i hi 0 _ rfl
          have e1 := cell i hi 1 _ rfl
          have e2 := cell i hi 2 _ rfl
          have e3 := cell i hi 3 _ rfl
          rw [Addr.add_mid] at e0 e1 e2 e3
          exact At1.mk _ _ e0 e1 e2 e3 hv.le hv.nil hv.at_
      · refine Nat.le_trans (Nat.succ_le_succ (countL_bulk _ (elems.map (·.1)) (by simp [hel]) fun i t d ht hd => ?_)) hbs
        obtain ⟨hi, rfl⟩ := hget i t ht
        obtain ⟨h1, _, _, h2⟩ := hz i hi
        rw [List.getElem?_map, h1] at hd
        injection hd with hd
        rw [← hd]
        exact h2.1
      · intro d p hp
        obtain ⟨X, hX, hp⟩ := itemsL_mem hp
        obtain ⟨i, hi, rfl⟩ := List.mem_map.1 hX
        rw [List.mem_range] at hi
        obtain ⟨h1, _, _, h2⟩ := hz i hi
        have h3 := h2.2 d p hp
        have h4 := bulk_mem (d := (z i).2.2.2.1) (ds := elems.map (·.1)) (List.mem_map.2 ⟨_, List.mem_of_getElem? h1, rfl⟩)
        exact ⟨h3.1, h3.2.1, by omega⟩
set_option maxRecDepth 100000 in
/-- An item among the arguments. -/
theorem open_item {b0 : Nat} {v : Value} {d : DataW H} {ps : List MemPlace} (hval : Value.okWide Tryz.prog W .any b0 25 v) (hd : DataW.Trod enc Tryz.prog W 0 (fun _ => true) true 25 v d ps) :
    ∃ t A cap, v = vI t A cap ∧ AtV W t A cap ∧ okI (Rows.uptoBulk d) t := by
  obtain ⟨cs, rfl, _⟩ := okWide_struct Tryz.underlying25 hval
  obtain ⟨fuel, hf⟩ := hd
  obtain ⟨t, A, cap, h1, h2, h3⟩ := trod_item fuel _ _ hf
  refine ⟨t, A, cap, ?_, h2, h3⟩
  have : cs = (ic t A cap).toArray := by
    apply Array.ext'
    simpa [Value.cells] using h1
  rw [this]
  rfl
end
end Go.Proofs.YtgcgidoikpbfpaaGreat
