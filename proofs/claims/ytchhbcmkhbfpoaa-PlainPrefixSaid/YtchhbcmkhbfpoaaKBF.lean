/- Package frame: Byte, Open, Depth, Kind, Key. -/
import Derived.Test.YtchhbcmkhbfpoaaKBE
import Derived.Test.YtchhbcmkhbfpoaaKBD
import Derived.BigRegion
import Derived.Test.YtchhbcmkhbfpoaaKAH
import Derived.Test.YtchhbcmkhbfpoaaKAK
import Derived.Test.YtchhbcmkhbfpoaaKAA
namespace Go.Proofs.Ytchhbcmkhbfpoaa
open Go.RowKit

/-- The first k frames have had the byte, if they could take it. -/
def fedK (K : Nat) (c : Int) (y : Fr) : Fr := if y.full K then y else y.feeds [c]
theorem frm_feeds {K : Nat} {y : Fr} {x : FC} {c : Int} (h : FrM y x) (hw : y.waits = true) (hf : y.full K = false) : FrM (fedK K c y) { x with k := { x.k with b := x.k.b ++ [c] } } := by
  have e : fedK K c y = { y with cur := y.cur ++ [c] } := by unfold fedK Fr.feeds; rw [if_neg (by simp [hf]), if_pos hw]
  rw [e]
  exact ⟨h.kind, h.left, h.half, h.any, by show x.k.b ++ [c] = y.cur ++ [c]; rw [h.cur], h.last⟩
theorem frm_stays {K : Nat} {y : Fr} {x : FC} {c : Int} (h : FrM y x) (hw : y.waits = false ∨ y.full K = true) : FrM (fedK K c y) x := by
  have e : fedK K c y = y := by
    unfold fedK Fr.feeds
    rcases hw with hw | hw
    · split
      · rfl
      · rw [if_neg (by simp [hw])]
    · rw [if_pos hw]
  rw [e]; exact h
/-- Under way. -/
structure Fed (w : World) (own : Nat → Nat) (s f D K : Nat) (st : List Fr) (c : Int) (k : Nat) (fs : List FC) : Prop where
  len : fs.length = D
  stk : Stk w own s f K fs st.length
  low : ∀ (i : Nat) (y : Fr), i < k → st.reverse[i]? = some y → ∃ x : FC, fs[i]? = some x ∧ FrM (fedK K c y) x
  high : ∀ (i : Nat) (y : Fr), k ≤ i → st.reverse[i]? = some y → ∃ x : FC, fs[i]? = some x ∧ FrM y x
theorem Fed.next {w w' : World} {own : Nat → Nat} {s f D K : Nat} {st : List Fr} {c : Int} {k : Nat} {fs : List FC} (h : Fed w own s f D K st c k fs) {y : Fr} (hy : st.reverse[k]? = some y) {x' : FC} {fs' : List FC} (hl : fs'.length = D) (hS : Stk w' own s f K fs' st.length) (hx : fs'[k]? = some x') (hm : FrM (fedK K c y) x') (hn : ∀ i, i ≠ k → fs'[i]? = fs[i]?) : Fed w' own s f D K st c (k + 1) fs' :=
  ⟨hl, hS, fun i z hi hz => by
    by_cases e : i = k
    · subst e
      rw [hy] at hz; injection hz with hz; subst hz
      exact ⟨x', hx, hm⟩
    · obtain ⟨x, h1, h2⟩ := h.low i z (by omega) hz
      exact ⟨x, by rw [hn i e]; exact h1, h2⟩, fun i z hi hz => by
    obtain ⟨x, h1, h2⟩ := h.high i z (by omega) hz
    exact ⟨x, by rw [hn i (by omega)]; exact h1, h2⟩⟩
theorem any_take_succ {l : List Fr} {k : Nat} {y : Fr} (h : l[k]? = some y) (p : Fr → Bool) : (l.take (k + 1)).any p = ((l.take k).any p || p y) := by
  rw [List.take_add_one, h]; simp

set_option maxRecDepth 100000 in
theorem frame_Byte (w : World) (own : Nat → Nat) (s f D K : Nat) (st : List Fr) (c : Int) (h : StkR w own s f D K st) (h0 : 0 ≤ c) (h1 : c < 256) :
    Calls Try.prog 48 #[.pointer (some ⟨s, 0, none⟩), .int .u8 c] w fun e w' => e = .returned (.bool (!st.any (Fr.full K))) ∧ StkW w' own s f D K ∧ (st.any (Fr.full K) = false → StkR w' own s f D K (st.map (Fr.feeds [c]))) ∧ Wi (Mine own) w w' := by
  obtain ⟨fs0, hD, hS0, hM0⟩ := h
  obtain ⟨c0, c1, _⟩ := hS0.cells
  have F0 := Lib.hid (show Fed w own s f D K st c 0 fs0 from ⟨hD, hS0, fun i y hi => absurd hi (by omega), fun i y _ hy => hM0 i y hy⟩)
  have hl64 : st.length ≤ 64 := Nat.le_trans hS0.hn hS0.hl
  have HB : Hid (0 ≤ c ∧ c < 256) := ⟨h0, h1⟩
  have HR : Hid (st.reverse.length = st.length) := Lib.hid List.length_reverse
  have HA : Hid (st.reverse.any (Fr.full K) = st.any (Fr.full K)) := Lib.hid List.any_reverse
  rw [hD] at c0
  clear hD hS0 hM0 h0 h1
  generalize st.any (Fr.full K) = bad at *
  generalize hN : st.length = N at *
  have HN := Lib.hid hN
  clear hN
  go_enter Try.func48, Try.ntmps48
  go_wp2_with fail
  go_loopw [5, 14] (fun t i wr => ∃ (k : Nat) (fs : List FC), k ≤ N ∧ i = .int .i64 k ∧ t = .bool (!(st.reverse.take k).any (Fr.full K)) ∧ Fed wr own s f D K st c k fs ∧ Wi (Mine own) w wr) (fun _ i _ => N - (intOf i).toNat)
  case atStart => exact ⟨0, fs0, by omega, rfl, rfl, F0.out, Wi.refl⟩
  case round =>
    obtain ⟨k, fs, hk, rfl, rfl, hF, hW⟩ := hrel
    by_cases hlt : k < N
    · have hlt' : (k : Int) < N := by omega
      obtain ⟨y, hy⟩ : ∃ y, st.reverse[k]? = some y := ⟨_, List.getElem?_eq_getElem (by rw [HR.out]; exact hlt)⟩
      have HT := Lib.hid (any_take_succ hy (Fr.full K))
      obtain ⟨x, hx, hm⟩ := hF.high k y (Nat.le_refl _) hy
      obtain ⟨d0, d1, d2, d3, _⟩ := hF.stk.fcell hx
      obtain ⟨e0, e1, _⟩ := hF.stk.cells
      rw [hF.len] at e0
      have hkD : k < D := by rw [← hF.len]; exact lt_of_get hx
      have RI := fun w => run_frame w f D D k (k : Int) rfl hkD
      have HWt := Lib.hid (frame_waits wr f (k * 4) x.kind x.keyed d1 d3)
      obtain ⟨k1, k2, k3, k4, k5, k6⟩ := hF.stk.ks k x hx
      rw [show (x.kind == 5 && !x.keyed) = y.waits from hm.waits] at HWt
      cases hw : y.waits with
      | false =>
        rw [hw] at HWt
        have hff : y.full K = false := by unfold Fr.full; rw [hw]; rfl
        have HN1 := Lib.hid (hF.next (w' := wr) hy hF.len hF.stk hx (frm_stays (K := K) (c := c) hm (.inl hw)) (fun _ _ => rfl))
        rw [hff, Bool.or_false] at HT
        have HW := Lib.hid hW
        clear hF hx hm hy k1 k2 k3 k4 k5 k6 hw hff d1 d2 d3 hW F0 HB hlt hkD
        generalize (st.reverse.take k).any (Fr.full K) = b at *
        generalize k * 4 = u at *
        go_wp2_with fail
        refine HWt.out.mono ?_
        rintro e w' ⟨rfl, rfl⟩
        go_wp2_with fail
        go_roundw
        case rel => exact ⟨k + 1, fs, by omega, by go_num, by rw [HT.out], HN1.out, HW.out⟩
        case measure => simp [intOf]; omega
      | true =>
        rw [hw] at HWt
        cases hff : y.full K with
        | true =>
          have hlen : x.k.b.length = K := by
            unfold Fr.full at hff
            rw [hw, Bool.true_and] at hff
            rw [hm.cur]; simpa using hff
          have HBy := Lib.hid (order_Byte_full wr _ _ _ _ _ _ _ c k1 hlen)
          have HN1 : Hid (∀ w', Ks w' x.k.g x.k.p x.k.q K x.k.a x.k.b x.k.e → Tri x.k.g x.k.p x.k.q wr w' → Fed w' own s f D K st c (k + 1) fs ∧ Wi (Mine own) w w') := fun w' hk' ht => by
            have hs := hF.stk.setK (k' := x.k) hx ht rfl k3 k4 hk' k5 k6
            have : fs.set k { x with k := x.k } = fs := set_self hx
            rw [this] at hs
            exact ⟨hF.next hy hF.len hs hx (frm_stays hm (.inr hff)) (fun _ _ => rfl), hW.trans (.ofTri ht (Mine.of k2) (Mine.of k3) (Mine.of k4))⟩
          rw [hff, Bool.or_true] at HT
          clear hF hm hy k1 k2 k3 k4 k5 k6 hw hff d1 d2 d3 hW F0 HB hlt hkD hx
          generalize (st.reverse.take k).any (Fr.full K) = b at *
          generalize x.k.g = g at *
          generalize k * 4 = u at *
          go_wp2_with fail
          refine HWt.out.mono ?_
          rintro e w' ⟨rfl, rfl⟩
          go_wp2_with fail
          refine HBy.out.mono ?_
          rintro e w2 ⟨rfl, a1, a2⟩
          have HN2 := Lib.hid (HN1.out _ a1 a2)
          clear a1 a2 HN1
          go_wp2_with fail
          go_roundw
          case rel => exact ⟨k + 1, fs, by omega, by go_num, by rw [HT.out]; rfl, HN2.out⟩
          case measure => simp [intOf]; omega
        | false =>
          have hlen : x.k.b.length < K := by
            have hle := k1.le2
            unfold Fr.full at hff
            rw [hw, Bool.true_and, ← hm.cur] at hff
            have : x.k.b.length ≠ K := by simpa using hff
            omega
          have HBy := Lib.hid (order_Byte wr _ _ _ _ _ _ _ c k1 hlen)
          have HN1 : Hid (∀ w', Ks w' x.k.g x.k.p x.k.q K x.k.a (x.k.b ++ [c]) x.k.e → Tri x.k.g x.k.p x.k.q wr w' → Fed w' own s f D K st c (k + 1) (fs.set k { x with k := { x.k with b := x.k.b ++ [c] } }) ∧ Wi (Mine own) w w') := fun w' hk' ht => by
            have hs := hF.stk.setK (k' := { x.k with b := x.k.b ++ [c] }) hx ht rfl k3 k4 hk' k5 (byte_append k6 (fun z hz => by rw [List.mem_singleton.1 hz]; exact HB.out))
            exact ⟨hF.next hy (by rw [List.length_set]; exact hF.len) hs (List.getElem?_set_self (lt_of_get hx)) (frm_feeds hm hw hff) (fun i hi => List.getElem?_set_ne (Ne.symm hi)), hW.trans (.ofTri ht (Mine.of k2) (Mine.of k3) (Mine.of k4))⟩
          rw [hff, Bool.or_false] at HT
          clear hF hm hy k1 k2 k3 k4 k5 k6 hw hff d1 d2 d3 hW F0 HB hlt hkD hx hlen
          generalize (st.reverse.take k).any (Fr.full K) = b at *
          generalize fs.set k { x with k := { x.k with b := x.k.b ++ [c] } } = fs' at *
          generalize x.k.b ++ [c] = bc at *
          generalize x.k.g = g at *
          generalize k * 4 = u at *
          go_wp2_with fail
          refine HWt.out.mono ?_
          rintro e w' ⟨rfl, rfl⟩
          go_wp2_with fail
          refine HBy.out.mono ?_
          rintro e w2 ⟨rfl, a1, a2⟩
          have HN2 := Lib.hid (HN1.out _ a1 a2)
          clear a1 a2 HN1
          go_wp2_with fail
          go_roundw
          case rel => exact ⟨k + 1, fs', by omega, by go_num, by rw [HT.out], HN2.out⟩
          case measure => simp [intOf]; omega
    · have hkN : k = N := by omega
      subst hkN
      have hlt' : ¬ (k : Int) < k := by omega
      rw [← HR.out, List.take_length, HA.out]
      have HE : Hid (StkW wr own s f D K ∧ (bad = false → StkR wr own s f D K (st.map (Fr.feeds [c])))) := by
        refine ⟨⟨fs, _, hF.len, hF.stk⟩, fun hb => ⟨fs, hF.len, by rw [List.length_map]; exact hF.stk, fun i z hz => ?_⟩⟩
        rw [← List.map_reverse, List.getElem?_map] at hz
        cases hy : st.reverse[i]? with
        | none => rw [hy] at hz; cases hz
        | some y =>
          rw [hy] at hz
          injection hz with hz
          subst hz
          obtain ⟨x, q1, q2⟩ := hF.low i y (by rw [← HR.out]; exact lt_of_get hy) hy
          refine ⟨x, q1, ?_⟩
          have : y.full K = false := by
            have hb2 : st.reverse.any (Fr.full K) = false := by rw [HA.out]; exact hb
            have := List.any_eq_false.1 hb2 y (List.mem_of_getElem? hy)
            simpa using this
          unfold fedK at q2
          rwa [if_neg (by simp [this])] at q2
      have HW := Lib.hid hW
      clear hF hW F0 HB
      go_wp2_with fail
      go_ret
      exact ⟨rfl, HE.out.1, HE.out.2, HW.out⟩
end Go.Proofs.Ytchhbcmkhbfpoaa

/- Package frame: Open, Depth, Kind, Key. -/
namespace Go.Proofs.Ytchhbcmkhbfpoaa
open Go.RowKit

set_option maxRecDepth 100000 in
set_option maxHeartbeats 1000000 in
theorem frame_Open (w : World) (own : Nat → Nat) (s f D K : Nat) (st : List Fr) (kind items it : Int) (h : StkR w own s f D K st) (hlt : st.length < D) (hk : ((kind = 4 ∨ kind = 5) ∧ ¬ items = 0 ∧ it = items) ∨ (kind = 6 ∧ it = 1)) :
    Calls Try.prog 70 #[.pointer (some ⟨s, 0, none⟩), .int .i64 kind, .int .u64 items] w fun e w' => e = .returned (.bool true) ∧ StkR w' own s f D K (⟨kind, it, false, [], [], false⟩ :: st) ∧ Wi (Mine own) w w' := by
  obtain ⟨fs, hD, hS, hM⟩ := h
  obtain ⟨x, hx⟩ : ∃ x, fs[st.length]? = some x := ⟨_, List.getElem?_eq_getElem (by omega)⟩
  have c0 := hS.cells.1
  have c1 := hS.cells.2.1
  rw [hD] at c0
  obtain ⟨d0, _⟩ := hS.fcell hx
  obtain ⟨k1, k2, k3, k4, k5, k6⟩ := hS.ks _ x hx
  have hl64 := hS.hl
  rw [hD] at hl64
  have HRe := Lib.hid (order_Reset (w.drew.drew) _ _ _ _ _ _ _ (k1.on (below_drawn (below_drawn (Below.refl _ _)))))
  have RI := fun w => run_frame w f D D st.length (st.length : Int) rfl hlt
  have HF : Hid (∀ w', Ks w' x.k.g x.k.p x.k.q K x.k.a [] false → Tri x.k.g x.k.p x.k.q w.drew.drew w' → ((w'.frozen? ⟨f, st.length * 4 + 1, none⟩ = false ∧ w'.frozen? ⟨f, st.length * 4 + 2, none⟩ = false ∧ w'.frozen? ⟨f, st.length * 4 + 3, none⟩ = false ∧ (∃ v, w'.cell? ⟨f, st.length * 4 + 1, none⟩ = some v) ∧ (∃ v, w'.cell? ⟨f, st.length * 4 + 2, none⟩ = some v) ∧ (∃ v, w'.cell? ⟨f, st.length * 4 + 3, none⟩ = some v)) ∧
      ∀ w3, w3 = ((w'.setCell ⟨f, st.length * 4 + 1, none⟩ (.int .i64 kind)).setCell ⟨f, st.length * 4 + 2, none⟩ (.int .u64 it)).setCell ⟨f, st.length * 4 + 3, none⟩ (.bool false) →
        ((w3.cell? ⟨s, 1, none⟩ = some (.int .i64 st.length) ∧ w3.frozen? ⟨s, 1, none⟩ = false) ∧ StkR (w3.setCell ⟨s, 1, none⟩ (.int .i64 ((st.length : Int) + 1))) own s f D K (⟨kind, it, false, [], [], false⟩ :: st) ∧ Wi (Mine own) w (w3.setCell ⟨s, 1, none⟩ (.int .i64 ((st.length : Int) + 1)))))) := fun w' hk' ht => by
    have hx0 := hx
    have s0 := (hS.on (below_drawn (below_drawn (Below.refl _ w)))).setK (k' := ⟨x.k.g, x.k.p, x.k.q, x.k.a, [], false⟩) hx ht rfl k3 k4 hk' k5 (fun y hy => by cases hy)
    have w0 : Wi (Mine own) w w' := (Wi.ofBelow (below_drawn (below_drawn (Below.refl _ _)))).trans (.ofTri ht (Mine.of k2) (Mine.of k3) (Mine.of k4))
    have g : ∀ z : FC, (fs.set st.length z)[st.length]? = some z := fun z => List.getElem?_set_self (lt_of_get hx)
    obtain ⟨v0, v1, v2, v3, fz⟩ := s0.fcell (g _)
    refine ⟨⟨fz _, fz _, fz _, ⟨_, v1⟩, ⟨_, v2⟩, ⟨_, v3⟩⟩, fun w3 hw3 => ?_⟩
    have s1 := s0.setF (x' := ⟨kind, x.left, x.keyed, ⟨x.k.g, x.k.p, x.k.q, x.k.a, [], false⟩⟩) (v := .int .i64 kind) (g _) (by decide : 1 < 4) rfl rfl
    rw [List.set_set] at s1
    have s2 := s1.setF (x' := ⟨kind, it, x.keyed, ⟨x.k.g, x.k.p, x.k.q, x.k.a, [], false⟩⟩) (v := .int .u64 it) (g _) (by decide : 2 < 4) rfl rfl
    rw [List.set_set] at s2
    have s3 := s2.setF (x' := ⟨kind, it, false, ⟨x.k.g, x.k.p, x.k.q, x.k.a, [], false⟩⟩) (v := .bool false) (g _) (by decide : 3 < 4) rfl rfl
    rw [List.set_set, ← hw3] at s3
    have hlen : (fs.set st.length ⟨kind, it, false, ⟨x.k.g, x.k.p, x.k.q, x.k.a, [], false⟩⟩).length = D := by rw [List.length_set]; exact hD
    have w3' : Wi (Mine own) w w3 := by
      rw [hw3]
      exact w0.trans (.ofOnly ((((Only.refl f w').put _ _).put _ _).put _ _) (Mine.of hS.of))
    refine ⟨⟨s3.cells.2.1, s3.cells.2.2 1⟩, ⟨_, hlen, s3.setN (by simp) (by rw [hlen]; simp; omega), hM.set hx ⟨rfl, rfl, rfl, rfl, rfl, fun h => by cases h⟩⟩, w3'.trans (.ofOnly ((Only.refl s w3).put 1 _) (Mine.of hS.os))⟩
  have hltI : ¬ (st.length : Int) = D := by omega
  have hn64 : (st.length : Int) < 64 := by omega
  have hn0 : (0 : Int) ≤ (st.length : Int) := by omega
  clear hS hM hx k1 k2 k3 k4 k5 k6 hD hlt hl64
  generalize x.k.g = g at *
  generalize st.length * 4 = u at *
  generalize hN : (st.length : Int) = N at *
  clear hN
  rcases hk with ⟨rfl | rfl, hi, rfl⟩ | ⟨rfl, rfl⟩
  all_goals
    go_enter Try.func70, Try.ntmps70
    go_wp2_with fail
    go_region
    go_wp2_with fail
    go_region
    go_wp2_with fail
    refine HRe.out.mono ?_
    rintro e w1 ⟨rfl, a1, a2⟩
    obtain ⟨⟨f1, f2, f3, ⟨v1, q1⟩, ⟨v2, q2⟩, ⟨v3, q3⟩⟩, H3⟩ := HF.out w1 a1 a2
    have ⟨⟨r1, r2⟩, H4⟩ := H3 _ rfl
    have HX := Lib.hid H4
    clear a1 a2 H3 H4 HRe HF
    go_wp2_with fail
    go_ret
    exact ⟨rfl, HX.out⟩
theorem frame_Open0 (w : World) (own : Nat → Nat) (s f D K : Nat) (st : List Fr) (kind : Int) (h : StkR w own s f D K st) (hlt : st.length < D) (hk : kind = 4 ∨ kind = 5) :
    Calls Try.prog 70 #[.pointer (some ⟨s, 0, none⟩), .int .i64 kind, .int .u64 0] w fun e w' => e = .returned (.bool false) ∧ Below w.heap.size w w' := by
  obtain ⟨fs, hD, hS, hM⟩ := h
  have c0 := hS.cells.1
  have c1 := hS.cells.2.1
  rw [hD] at c0
  have hltI : ¬ (st.length : Int) = D := by omega
  clear hS hM hD hlt
  generalize hN : (st.length : Int) = N at *
  clear hN
  rcases hk with rfl | rfl
  all_goals
    go_enter Try.func70, Try.ntmps70
    go_wp2_with fail
    go_region
    go_wp2_with fail
    go_ret
    exact ⟨rfl, below_drawn (Below.refl _ _)⟩
theorem frame_Depth (w : World) (own : Nat → Nat) (s f D K : Nat) (st : List Fr) (h : StkR w own s f D K st) :
    Calls Try.prog 62 #[.pointer (some ⟨s, 0, none⟩)] w fun e w' => e = .returned (.int .i64 st.length) ∧ w' = w := by
  obtain ⟨fs, hD, hS, hM⟩ := h
  have c1 := hS.cells.2.1
  clear hS hM hD
  go_enter Try.func62, Try.ntmps62
  go_wp2_with fail
  go_ret
  exact ⟨rfl, rfl⟩
/-- The innermost frame's kind; -1: none. -/
def kindS : List Fr → Int
  | [] => -1
  | y :: _ => y.kind
def keyS : List Fr → Bool
  | [] => false
  | y :: _ => y.waits
theorem frame_Kind (w : World) (own : Nat → Nat) (s f D K : Nat) (st : List Fr) (h : StkR w own s f D K st) :
    Calls Try.prog 64 #[.pointer (some ⟨s, 0, none⟩)] w fun e w' => e = .returned (.int .i64 (kindS st)) ∧ Below w.heap.size w w' := by
  obtain ⟨fs, hD, hS, hM⟩ := h
  cases st with
  | nil =>
    have HI := Lib.hid (frame_inner0 w own s f K fs hS)
    clear hS hM hD
    go_enter Try.func64, Try.ntmps64
    go_wp2_with fail
    refine HI.out.mono ?_
    rintro e w1 ⟨rfl, b1⟩
    have B1 := Lib.hid b1
    clear b1
    go_wp2_with fail
    go_ret
    exact ⟨rfl, B1.out⟩
  | cons y st =>
    have HI := Lib.hid (frame_inner w own s f K fs st.length hS)
    obtain ⟨x, hx, hm⟩ := hM.top
    have HC : Hid (∀ w', Below w.heap.size w w' → w'.cell? ⟨f, st.length * 4 + 1, none⟩ = some (.int .i64 y.kind)) := fun w' hb => by rw [← hm.kind]; exact ((hS.on hb).fcell hx).2.1
    have e : kindS (y :: st) = y.kind := rfl
    rw [e]
    clear hS hM hD hx hm e
    generalize st.length * 4 = u at *
    generalize y.kind = k at *
    go_enter Try.func64, Try.ntmps64
    go_wp2_with fail
    refine HI.out.mono ?_
    rintro e w1 ⟨rfl, b1⟩
    have d1 := HC.out w1 b1
    have B1 := Lib.hid b1
    clear b1
    go_wp2_with fail
    go_ret
    exact ⟨rfl, B1.out⟩
theorem frame_Key (w : World) (own : Nat → Nat) (s f D K : Nat) (st : List Fr) (h : StkR w own s f D K st) :
    Calls Try.prog 65 #[.pointer (some ⟨s, 0, none⟩)] w fun e w' => e = .returned (.bool (keyS st)) ∧ Below w.heap.size w w' := by
  obtain ⟨fs, hD, hS, hM⟩ := h
  cases st with
  | nil =>
    have HI := Lib.hid (frame_inner0 w own s f K fs hS)
    clear hS hM hD
    go_enter Try.func65, Try.ntmps65
    go_wp2_with fail
    refine HI.out.mono ?_
    rintro e w1 ⟨rfl, b1⟩
    have B1 := Lib.hid b1
    clear b1
    go_wp2_with fail
    go_ret
    exact ⟨rfl, B1.out⟩
  | cons y st =>
    have HI := Lib.hid (frame_inner w own s f K fs st.length hS)
    obtain ⟨x, hx, hm⟩ := hM.top
    have HC : Hid (∀ w', Below w.heap.size w w' → Calls Try.prog 58 #[.pointer (some ⟨f, st.length * 4, none⟩)] w' fun e w'' => e = .returned (.bool y.waits) ∧ w'' = w') := fun w' hb => by
      have := (hS.on hb).fcell hx
      have := frame_waits w' f (st.length * 4) x.kind x.keyed this.2.1 this.2.2.2.1
      rwa [show (x.kind == 5 && !x.keyed) = y.waits from hm.waits] at this
    have e : keyS (y :: st) = y.waits := rfl
    rw [e]
    clear hS hM hD hx hm e
    generalize st.length * 4 = u at *
    generalize y.waits = k at *
    go_enter Try.func65, Try.ntmps65
    go_wp2_with fail
    refine HI.out.mono ?_
    rintro e w1 ⟨rfl, b1⟩
    have d1 := Lib.hid (HC.out w1 b1)
    have B1 := Lib.hid b1
    clear b1
    go_wp2_with fail
    refine d1.out.mono ?_
    rintro e w2 ⟨rfl, rfl⟩
    go_wp2_with fail
    go_ret
    exact ⟨rfl, B1.out⟩
end Go.Proofs.Ytchhbcmkhbfpoaa

/- Package frame: New, Cap. -/
namespace Go.Proofs.Ytchhbcmkhbfpoaa
open Go.RowKit

def nilC : List Value := [.pointer none, .int .i64 0, .int .u64 0, .bool false]
def nilCells : Nat → List Value
  | 0 => []
  | n + 1 => nilC ++ nilCells n
theorem nilCells_get (n : Nat) : ∀ i, i < n * 4 → (nilCells n)[i]? = nilC[i % 4]? := by
  induction n with
  | zero => intro i hi; omega
  | succ n ih =>
    intro i hi
    unfold nilCells
    by_cases h : i < 4
    · rw [List.getElem?_append_left (by simpa [nilC] using h), Nat.mod_eq_of_lt h]
    · rw [List.getElem?_append_right (by simp [nilC]; omega)]
      have e : i - nilC.length = i - 4 := rfl
      rw [e, ih (i - 4) (by omega)]
      congr 1
      omega
theorem length_nilCells (n : Nat) : (nilCells n).length = n * 4 := by
  induction n with
  | zero => rfl
  | succ n ih => unfold nilCells; rw [List.length_append, ih]; simp [nilC]; omega
theorem made_nil (n : Nat) : madeCells nilC.toArray (n * 4) = (nilCells n).toArray := by
  apply Array.ext
  · simp [size_madeCells, length_nilCells]
  · intro i h1 h2
    rw [size_madeCells] at h1
    have h3 := nilCells_get n i h1
    have h4 : i < (nilCells n).length := by simpa using h2
    rw [List.getElem?_eq_getElem h4] at h3
    have h5 : i % 4 < 4 := Nat.mod_lt _ (by decide)
    simp only [madeCells, Array.getElem_map, Array.getElem_range, List.getElem_toArray]
    have h6 : i % nilC.toArray.size = i % 4 := rfl
    rw [h6, getElem!_pos nilC.toArray (i % 4) (by simpa [nilC] using h5)]
    have h7 : nilC[i % 4]? = some (nilC.toArray[i % 4]'(by simpa [nilC] using h5)) := by rw [List.getElem?_eq_getElem (by simpa [nilC] using h5)]; rfl
    rw [h7] at h3
    injection h3 with h3
    exact h3.symm
theorem frcells_append (a b : List FC) : frcells (a ++ b) = frcells a ++ frcells b := by
  induction a with
  | nil => rfl
  | cons x r ih => simp [frcells, ih]

/-- A stack that is being made: the first frames have their keys. -/
structure MkS (w : World) (own : Nat → Nat) (B s f K D : Nat) (fs : List FC) : Prop where
  sblk : Blk w s 93 #[.slice (some ⟨f, 0, none⟩) D D, .int .i64 0]
  fblk : Blk w f 97 (frcells fs ++ nilCells (D - fs.length)).toArray
  os : own s = 1
  of : own f = 2
  ks : ∀ (i : Nat) (x : FC), fs[i]? = some x → Ks w x.k.g x.k.p x.k.q K x.k.a x.k.b x.k.e ∧ own x.k.g = i + 3 ∧ own x.k.p = i + 3 ∧ own x.k.q = i + 3 ∧ ByteL x.k.a ∧ ByteL x.k.b
  lo : ∀ j, own j ≠ 0 → B ≤ j ∧ j < w.heap.size
  len : fs.length ≤ D
section
variable {w w' : World} {own : Nat → Nat} {B s f K D : Nat} {fs : List FC}
theorem MkS.done (h : MkS w own B s f K D fs) (hl : fs.length = D) (hD : D ≤ 64) : StkR w own s f D K [] := by
  refine ⟨fs, hl, ⟨?_, ?_, h.os, h.of, h.ks, Nat.zero_le _, by omega⟩, fun i y hy => ?_⟩
  · have := h.sblk; rw [← hl] at this; exact this
  · have := h.fblk; rw [hl, Nat.sub_self] at this; simpa [nilCells] using this
  · simp at hy
theorem MkS.on (h : MkS w own B s f K D fs) (hb : Below w.heap.size w w') : MkS w' own B s f K D fs :=
  ⟨h.sblk.on hb, h.fblk.on hb, h.os, h.of, fun i x hx => let ⟨a, b⟩ := h.ks i x hx; ⟨a.on hb, b⟩, fun j hj => ⟨(h.lo j hj).1, Nat.lt_of_lt_of_le (h.lo j hj).2 hb.size⟩, h.len⟩
theorem MkS.cell (h : MkS w own B s f K D fs) (hk : fs.length < D) : w.cell? ⟨f, fs.length * 4, none⟩ = some (.pointer none) := by
  rw [h.fblk.cell, List.getElem?_toArray, List.getElem?_append_right (by rw [length_frcells]; omega), length_frcells, Nat.sub_self, nilCells_get _ 0 (by omega)]
  rfl
/-- One more frame has its keys. -/
theorem MkS.next (h : MkS w own B s f K D fs) (hk : fs.length < D) (hb : Below w.heap.size w w') {g p q : Nat} (hB : B ≤ w.heap.size) (hg : w.heap.size ≤ g) (hp : w.heap.size ≤ p) (hq : w.heap.size ≤ q) (hks : Ks w' g p q K [] [] false) :
    ∃ own', MkS (w'.setCell ⟨f, fs.length * 4, none⟩ (.pointer (some ⟨g, 0, none⟩))) own' B s f K D (fs ++ [⟨0, 0, false, ⟨g, p, q, [], [], false⟩⟩]) := by
  have h1 := h.on hb
  have own0 : ∀ j, w.heap.size ≤ j → own j = 0 := fun j hj => by
    apply Classical.byContradiction
    intro hn
    have := (h.lo j hn).2
    omega
  have hf : f < w.heap.size := h.fblk.lt
  have hs : s < w.heap.size := h.sblk.lt
  have blk : ∀ j, j ≠ f → (w'.setCell ⟨f, fs.length * 4, none⟩ (.pointer (some ⟨g, 0, none⟩))).heap[j]? = w'.heap[j]? := fun j hj => Below.heap_setCell w' _ _ j hj
  refine ⟨fun j => if j = g ∨ j = p ∨ j = q then fs.length + 3 else own j, ?_⟩
  have old : ∀ j, j < w.heap.size → (if j = g ∨ j = p ∨ j = q then fs.length + 3 else own j) = own j := fun j hj => by rw [if_neg (by omega)]
  refine ⟨(blk s (fun e => by have := h.os; have := h.of; rw [e] at *; omega)).trans h1.sblk, ?_, by rw [old s hs]; exact h.os, by rw [old f hf]; exact h.of, fun i x hx => ?_, fun j hj => ?_, by simp; omega⟩
  · have := h1.fblk.put (fs.length * 4) (.pointer (some ⟨g, 0, none⟩))
    rw [List.setIfInBounds_toArray, List.set_append, if_neg (by rw [length_frcells]; omega), length_frcells, Nat.sub_self, show D - fs.length = (D - (fs.length + 1)) + 1 by omega] at this
    rw [frcells_append, List.length_append, List.length_singleton, List.append_assoc]
    exact this
  · rcases Nat.lt_or_ge i fs.length with hi | hi
    · rw [List.getElem?_append_left hi] at hx
      obtain ⟨a1, a2, a3, a4, a5⟩ := h1.ks i x hx
      have b2 := (h.lo x.k.g (by omega)).2
      have b3 := (h.lo x.k.p (by omega)).2
      have b4 := (h.lo x.k.q (by omega)).2
      have ne : ∀ j, own j = i + 3 → j ≠ f := fun j hj e => by have := h.of; rw [e] at hj; omega
      exact ⟨a1.keep (by simp [World.setCell]) (blk _ (ne _ a2)) (blk _ (ne _ a3)) (blk _ (ne _ a4)), by rw [old _ b2]; exact a2, by rw [old _ b3]; exact a3, by rw [old _ b4]; exact a4, a5⟩
    · rw [List.getElem?_append_right hi] at hx
      have hi' := lt_of_get hx
      simp only [List.length_singleton] at hi'
      obtain rfl : i = fs.length := by omega
      rw [Nat.sub_self] at hx
      injection hx with hx
      subst hx
      exact ⟨hks.keep (by simp [World.setCell]) (blk _ (by omega)) (blk _ (by omega)) (blk _ (by omega)), by simp, by simp, by simp, fun y hy => (by cases hy), fun y hy => by cases hy⟩
  · have hsz := hb.size
    have : (w'.setCell ⟨f, fs.length * 4, none⟩ (.pointer (some ⟨g, 0, none⟩))).heap.size = w'.heap.size := by simp [World.setCell]
    rw [this]
    by_cases e : j = g ∨ j = p ∨ j = q
    · rcases e with rfl | rfl | rfl
      · exact ⟨by omega, hks.blk.lt⟩
      · exact ⟨by omega, hks.lp⟩
      · exact ⟨by omega, hks.lq⟩
    · rw [if_neg e] at hj
      have := h.lo j hj
      exact ⟨this.1, by omega⟩
end
theorem frameInfo : (Try.prog.info? 97).map (fun i => (i.zero, i.size, i.bytes)) = some (some (.agg nilC.toArray), 4, 32) := by kernel_rfl

set_option maxRecDepth 100000 in
set_option maxHeartbeats 1000000 in
theorem frame_New (w : World) (D K : Nat) (h1 : 1 ≤ D) (h2 : D ≤ 64) (k1 : 1 ≤ K) (k2 : K ≤ 1024) :
    Calls Try.prog 23 #[.int .i64 D, .int .i64 K] w fun e w' => ∃ own s f, e = .returned (.pointer (some ⟨s, 0, none⟩)) ∧ StkR w' own s f D K [] ∧ (∀ j, own j ≠ 0 → w.heap.size ≤ j ∧ j < w'.heap.size) ∧ Below w.heap.size w w' := by
  obtain ⟨i0, hi0, hz0, hz1, hz2⟩ := info_parts frameInfo
  have hmk0 := run_make (P := Try.prog) w 91 97 i0 (.agg nilC.toArray) Try.underlying91 hi0 hz0 .i64 .i64 D D (by omega) (by omega) (by rw [hz2]; omega) (by omega)
  have hcl : (Value.agg nilC.toArray).cells = nilC.toArray := rfl
  rw [Int.toNat_natCast, hz1, hcl, made_nil] at hmk0
  have a0 := below_alloc w (.cells (nilCells D).toArray 97)
  have b0 : Blk (w.alloc (.cells (nilCells D).toArray 97)) w.heap.size 97 (nilCells D).toArray := Blk.fresh _ _ _
  have hsz0 : (w.alloc (.cells (nilCells D).toArray 97)).heap.size = w.heap.size + 1 := by simp
  obtain ⟨w1, hw1⟩ : ∃ w1, w.alloc (.cells (nilCells D).toArray 97) = w1 := ⟨_, rfl⟩
  rw [hw1] at hmk0 a0 b0 hsz0
  have b1 : Blk (w1.alloc (.cells #[.slice (some ⟨w.heap.size, 0, none⟩) D D, .int .i64 0] 93)) w1.heap.size 93 #[.slice (some ⟨w.heap.size, 0, none⟩) D D, .int .i64 0] := Blk.fresh _ _ _
  have a1 := a0.trans ((below_alloc w1 (.cells #[.slice (some ⟨w.heap.size, 0, none⟩) D D, .int .i64 0] 93)).mono a0.size)
  have c1 := b0.alloc (.cells #[.slice (some ⟨w.heap.size, 0, none⟩) D D, .int .i64 0] 93)
  have hsz1 : (w1.alloc (.cells #[.slice (some ⟨w.heap.size, 0, none⟩) D D, .int .i64 0] 93)).heap.size = w.heap.size + 2 := by simp [hsz0]
  rw [hsz0] at b1
  have hM : Hid (MkS (w1.alloc (.cells #[.slice (some ⟨w.heap.size, 0, none⟩) D D, .int .i64 0] 93)) (fun j => if j = w.heap.size + 1 then 1 else if j = w.heap.size then 2 else 0) w.heap.size (w.heap.size + 1) w.heap.size K D []) := by
    refine ⟨b1, ?_, by simp, by simp, fun i x hx => (by simp at hx), fun j hj => ?_, Nat.zero_le _⟩
    · simpa [frcells] using c1
    · rw [hsz1]
      by_cases e1 : j = w.heap.size + 1
      · omega
      · rw [if_neg e1] at hj
        by_cases e2 : j = w.heap.size
        · omega
        · rw [if_neg e2] at hj; exact absurd rfl hj
  have HA := Lib.hid a1
  obtain ⟨cell0, cell1⟩ : (w1.alloc (.cells #[.slice (some ⟨w.heap.size, 0, none⟩) D D, .int .i64 0] 93)).cell? ⟨w.heap.size + 1, 0, none⟩ = some (.slice (some ⟨w.heap.size, 0, none⟩) D D) ∧ True := ⟨b1.cell 0, trivial⟩
  have hws : w1.heap.size = w.heap.size + 1 := hsz0
  have hDi : (1 : Int) ≤ D := by omega
  have hDj : (D : Int) ≤ 64 := by omega
  clear b1 c1 a1 a0 b0 hsz0 hsz1 hi0 hz0 hz1 hz2 cell1 hcl hw1
  go_enter Try.func23, Try.ntmps23
  go_wp2_with fail
  generalize w1.alloc (.cells #[.slice (some ⟨w.heap.size, 0, none⟩) D D, .int .i64 0] 93) = w2 at *
  clear cell0 hws hmk0
  go_loopw [18] (fun i wr => ∃ (k : Nat) (own : Nat → Nat) (fs : List FC), k ≤ D ∧ i = .int .i64 k ∧ fs.length = k ∧ MkS wr own w.heap.size (w.heap.size + 1) w.heap.size K D fs ∧ Below w.heap.size w wr) (fun i _ => D - (intOf i).toNat)
  case atStart => exact ⟨0, _, [], Nat.zero_le _, rfl, rfl, hM.out, HA.out⟩
  case round =>
    obtain ⟨k, own, fs, hk, rfl, hfl, hMk, hB⟩ := hrel
    by_cases hlt : k < D
    · have hltI : (k : Int) < D := by omega
      have HN := Lib.hid (fun v => order_New v (K : Int) K (by omega))
      have HD := Lib.hid (show Below wr.heap.size wr wr.drew from below_drawn (Below.refl _ _))
      have ccs : wr.cell? ⟨w.heap.size + 1, 0, none⟩ = some (.slice (some ⟨w.heap.size, 0, none⟩) D D) := hMk.sblk.cell 0
      have RI := fun v => run_frame v w.heap.size D D k (k : Int) rfl hlt
      have HC : Hid (∀ w5, Below wr.heap.size wr w5 → w5.cell? ⟨w.heap.size + 1, 0, none⟩ = some (.slice (some ⟨w.heap.size, 0, none⟩) D D) ∧ w5.frozen? ⟨w.heap.size, k * 4, none⟩ = false ∧ w5.cell? ⟨w.heap.size, k * 4, none⟩ = some (.pointer none)) := fun w5 hb => by
        have h5 := hMk.on hb
        exact ⟨h5.sblk.cell 0, h5.fblk.free _, by have := h5.cell (by omega); rwa [hfl] at this⟩
      have HX : Hid (∀ w5 g p q, Below wr.heap.size wr w5 → wr.heap.size ≤ g → wr.heap.size ≤ p → wr.heap.size ≤ q → Ks w5 g p q K [] [] false → (∃ own' fs', fs'.length = k + 1 ∧ MkS (w5.setCell ⟨w.heap.size, k * 4, none⟩ (.pointer (some ⟨g, 0, none⟩))) own' w.heap.size (w.heap.size + 1) w.heap.size K D fs') ∧ Below w.heap.size w (w5.setCell ⟨w.heap.size, k * 4, none⟩ (.pointer (some ⟨g, 0, none⟩)))) := fun w5 g p q hb hg hp hq hks => by
        obtain ⟨own', hm⟩ := hMk.next (by omega) hb hB.size hg hp hq hks
        rw [hfl] at hm
        exact ⟨⟨own', _, by simp [hfl], hm⟩, (hB.trans (hb.mono hB.size)).setCell (Nat.le_refl _) _⟩
      have hfol : Try.prog.follows Departure.mixedOrders = true := by kernel_rfl
      clear hMk hB hM HA hlt hk
      generalize k * 4 = u at *
      generalize w.heap.size = B at *
      go_wp2_with fail
      go_region_with (go_at_call 34; refine (HN.out _).mono ?_; rintro e w5 ⟨g, p, q, rfl, hg, hp, hq, hks, hb⟩; have hb5 := HD.out.trans hb; obtain ⟨q0, q1, q2⟩ := HC.out w5 hb5; have HY := Lib.hid (HX.out w5 g p q hb5 hg hp hq hks); clear hg hp hq hks hb hb5)
      all_goals
        go_wp2_with fail
        go_roundw
        case rel =>
          obtain ⟨⟨own', fs', y1, y2⟩, y3⟩ := HY.out
          exact ⟨k + 1, own', fs', by omega, by go_num, y1, y2, y3⟩
        case measure => simp [intOf]; omega
    · have hkD : k = D := by omega
      subst hkD
      have hltI : ¬ (k : Int) < k := by omega
      have HE := Lib.hid (hMk.done hfl h2)
      have HO := Lib.hid hMk.lo
      have HB := Lib.hid hB
      clear hMk hB hM HA
      go_wp2_with fail
      go_ret
      exact ⟨own, _, rfl, ⟨_, HE.out⟩, HO.out, HB.out⟩

set_option maxRecDepth 100000 in
theorem frame_Cap (w : World) (own : Nat → Nat) (s f D K : Nat) (h : StkW w own s f D K) :
    Calls Try.prog 26 #[.pointer (some ⟨s, 0, none⟩)] w fun e w' => e = .returned (.int .i64 (D * (2 * K))) ∧ w' = w := by
  obtain ⟨fs, n, hD, hS⟩ := h
  have c0 := hS.cells.1
  rw [hD] at c0
  have hl := hS.hl
  have HS := Lib.hid hS
  rw [hD] at hl
  have HD := Lib.hid hD
  clear hS hD
  go_enter Try.func26, Try.ntmps26
  go_wp2_with fail
  go_loop [3, 12] (fun v i => ∃ k : Nat, k ≤ D ∧ i = .int .i64 k ∧ v = .int .i64 (k * (2 * K))) (fun _ i => D - (intOf i).toNat)
  case atStart => exact ⟨0, by omega, rfl, by simp⟩
  case round =>
    obtain ⟨k, hk, rfl, rfl⟩ := hrel
    by_cases hlt : k < D
    · have hltI : (k : Int) < D := by omega
      obtain ⟨x, hx⟩ : ∃ x, fs[k]? = some x := ⟨_, List.getElem?_eq_getElem (by have := HD.out; omega)⟩
      have hks := (HS.out.ks k x hx).1
      have HCp := Lib.hid (order_Cap w _ _ _ _ _ _ _ hks)
      have d0 := (HS.out.fcell hx).1
      have hK := hks.lem
      have RI := fun v => run_frame v f D D k (k : Int) rfl hlt
      have e1 : (k : Int) * (2 * (K : Int)) + 2 * (K : Int) = ((k + 1 : Nat) : Int) * (2 * (K : Int)) := by rw [Int.natCast_add, Int.add_mul]; omega
      have e2 : (0 : Int) ≤ (k : Int) * (2 * (K : Int)) := Int.mul_nonneg (by omega) (by omega)
      have e3 : (k : Int) * (2 * (K : Int)) ≤ 64 * (2 * 1024) := Int.mul_le_mul (by omega) (by omega) (by omega) (by omega)
      have E1 := Lib.hid e1
      have e4 : (0 : Int) ≤ 2 * (K : Int) := by omega
      have e5 : 2 * (K : Int) ≤ 2048 := by omega
      clear hks hx e1
      generalize x.k.g = g at *
      generalize k * 4 = u at *
      generalize hP : (k : Int) * (2 * (K : Int)) = P at *
      generalize 2 * (K : Int) = Q at *
      have HPP := Lib.hid hP
      clear hP hK
      go_wp2_with fail
      refine HCp.out.mono ?_
      rintro e w' ⟨rfl, rfl⟩
      go_wp2_with fail
      go_round
      case rel => exact ⟨k + 1, by omega, by go_num, by rw [← E1.out]⟩
      case measure => simp [intOf]; omega
    · have hkD : k = D := by omega
      subst hkD
      have hltI : ¬ (k : Int) < k := by omega
      clear HS
      go_wp2_with fail
      go_ret
      exact ⟨rfl, rfl⟩
end Go.Proofs.Ytchhbcmkhbfpoaa

/- A struct that lies in another one: cells in the middle of a block that is known whole. -/
namespace Go.Proofs.Ytchhbcmkhbfpoaa
open Go.RowKit

/-- Block g is just the cells a, c, b; c begins at o. -/
def Fd (w : World) (g o : Nat) (t : TypeId) (a c b : Array Value) : Prop := Blk w g t (a ++ c ++ b) ∧ a.size = o
section
variable {w w' : World} {g o : Nat} {t : TypeId} {a c b : Array Value}
theorem fd_get (ha : a.size = o) {i : Nat} (hi : i < c.size) : (a ++ c ++ b)[o + i]? = c[i]? := by
  subst ha
  rw [Array.append_assoc, Array.getElem?_append_right (by omega), Nat.add_sub_cancel_left, Array.getElem?_append_left hi]
theorem fd_set (ha : a.size = o) {i : Nat} (hi : i < c.size) (u : Value) : (a ++ c ++ b).setIfInBounds (o + i) u = a ++ c.setIfInBounds i u ++ b := by
  subst ha
  rw [Array.append_assoc, Array.append_assoc, Array.setIfInBounds_append_right (by omega), Nat.add_sub_cancel_left, Array.setIfInBounds_append_left hi]
theorem Fd.lt (h : Fd w g o t a c b) : g < w.heap.size := h.1.lt
theorem Fd.cell (h : Fd w g o t a c b) (i : Nat) (hi : i < c.size := by first | (simp [hcells]; done) | (simp [ucells]; done) | (simp; done)) : w.cell? ⟨g, o + i, none⟩ = c[i]? := by
  rw [h.1.cell, fd_get h.2 hi]
theorem Fd.free (h : Fd w g o t a c b) (i : Nat) : w.frozen? ⟨g, i, none⟩ = false := h.1.free i
theorem Fd.put (h : Fd w g o t a c b) (i : Nat) (u : Value) (hi : i < c.size := by first | (simp [hcells]; done) | (simp [ucells]; done) | (simp; done)) : Fd (w.setCell ⟨g, o + i, none⟩ u) g o t a (c.setIfInBounds i u) b := by
  refine ⟨?_, h.2⟩
  rw [← fd_set h.2 hi]
  exact h.1.put (o + i) u
theorem Fd.below {B : Nat} (h : Fd w g o t a c b) (hb : Below B w w') (hg : g < B) : Fd w' g o t a c b := ⟨h.1.below hb hg, h.2⟩
theorem Fd.on (h : Fd w g o t a c b) (hb : Below w.heap.size w w') : Fd w' g o t a c b := ⟨h.1.on hb, h.2⟩
theorem Fd.row (h : Fd w g o t a c b) (c' : Array Value) : Fd (w.setRow g (a ++ c' ++ b)) g o t a c' b := ⟨h.1.setRow _, h.2⟩
theorem Fd.whole (h : Blk w g t c) : Fd w g 0 t #[] c #[] := ⟨by simpa using h, rfl⟩
end
end Go.Proofs.Ytchhbcmkhbfpoaa
