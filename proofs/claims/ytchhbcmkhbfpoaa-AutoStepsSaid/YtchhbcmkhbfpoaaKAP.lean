/- Package frame: what is open, against the plain frames; Byte, End, Open. -/
import Derived.Test.YtchhbcmkhbfpoaaKAF
import Derived.Test.YtchhbcmkhbfpoaaKAO
namespace Go.Proofs.Ytchhbcmkhbfpoaa
open Go.RowKit

/-- A frame's place holds a plain frame. -/
structure FrM (y : Fr) (x : FC) : Prop where
  kind : x.kind = y.kind
  left : x.left = y.left
  half : x.keyed = y.half
  any : x.k.e = y.any
  cur : x.k.b = y.cur
  last : y.any = true → x.k.a = y.last
/-- The frames that are open, outermost first. -/
def FrsM (st : List Fr) (fs : List FC) : Prop := ∀ (i : Nat) (y : Fr), st.reverse[i]? = some y → ∃ x : FC, fs[i]? = some x ∧ FrM y x
theorem FrM.waits {y : Fr} {x : FC} (h : FrM y x) : x.waits = y.waits := by unfold FC.waits Fr.waits; rw [h.kind, h.half]
/-- A stack in memory with room for D frames, in which st is open. -/
def StkR (w : World) (own : Nat → Nat) (s f D K : Nat) (st : List Fr) : Prop := ∃ fs, fs.length = D ∧ Stk w own s f K fs st.length ∧ FrsM st fs
/-- Whatever is open. -/
def StkW (w : World) (own : Nat → Nat) (s f D K : Nat) : Prop := ∃ fs n, fs.length = D ∧ Stk w own s f K fs n
section
variable {w w' : World} {own : Nat → Nat} {s f D K : Nat} {st : List Fr}
theorem StkR.weak (h : StkR w own s f D K st) : StkW w own s f D K := let ⟨fs, h1, h2, _⟩ := h; ⟨fs, _, h1, h2⟩
theorem StkR.wi {S : Nat → Prop} (h : StkR w own s f D K st) (hb : Wi S w w') (hS : ∀ i, S i → own i = 0) : StkR w' own s f D K st := let ⟨fs, h1, h2, h3⟩ := h; ⟨fs, h1, h2.wi hb hS, h3⟩
theorem StkW.wi {S : Nat → Prop} (h : StkW w own s f D K) (hb : Wi S w w') (hS : ∀ i, S i → own i = 0) : StkW w' own s f D K := let ⟨fs, n, h1, h2⟩ := h; ⟨fs, n, h1, h2.wi hb hS⟩
theorem StkR.on (h : StkR w own s f D K st) (hb : Below w.heap.size w w') : StkR w' own s f D K st := let ⟨fs, h1, h2, h3⟩ := h; ⟨fs, h1, h2.on hb, h3⟩
theorem StkW.on (h : StkW w own s f D K) (hb : Below w.heap.size w w') : StkW w' own s f D K := let ⟨fs, n, h1, h2⟩ := h; ⟨fs, n, h1, h2.on hb⟩
theorem rev_top (y : Fr) (st : List Fr) : (y :: st).reverse[st.length]? = some y := by
  rw [List.reverse_cons, List.getElem?_append_right (by simp)]; simp
theorem rev_low {y : Fr} {st : List Fr} {i : Nat} (h : i < st.length) : (y :: st).reverse[i]? = st.reverse[i]? := by
  rw [List.reverse_cons, List.getElem?_append_left (by simpa using h)]
theorem FrsM.tail {y : Fr} {fs : List FC} (h : FrsM (y :: st) fs) : FrsM st fs := fun i z hz => h i z (by
  have := lt_of_get hz
  rw [rev_low (by simpa using this)]; exact hz)
theorem FrsM.top {y : Fr} {fs : List FC} (h : FrsM (y :: st) fs) : ∃ x, fs[st.length]? = some x ∧ FrM y x := h _ _ (rev_top y st)
/-- The innermost frame is another one, or a new one. -/
theorem FrsM.set {fs : List FC} {x x' : FC} {y' : Fr} (h : FrsM st fs) (hx : fs[st.length]? = some x) (hm : FrM y' x') : FrsM (y' :: st) (fs.set st.length x') := fun i z hz => by
  have hi := lt_of_get hz
  simp only [List.length_reverse, List.length_cons] at hi
  by_cases e : i = st.length
  · subst e
    rw [rev_top] at hz
    injection hz with hz
    subst hz
    exact ⟨x', List.getElem?_set_self (lt_of_get hx), hm⟩
  · rw [rev_low (by omega)] at hz
    obtain ⟨x2, h1, h2⟩ := h i z hz
    exact ⟨x2, by rw [List.getElem?_set_ne (Ne.symm e)]; exact h1, h2⟩
end
theorem frm_keyed {y : Fr} {x : FC} (h : FrM y x) (hw : y.waits = true) : FrM y.keyed x.taken := by
  have hx : x.waits = true := h.waits.trans hw
  have e : x.taken = { x with keyed := true, k := ⟨x.k.g, x.k.q, x.k.p, x.k.b, [], true⟩ } := by unfold FC.taken; rw [if_pos hx]
  rw [e]
  exact ⟨h.kind, h.left, rfl, rfl, rfl, fun _ => h.cur⟩
theorem frm_less {y : Fr} {x : FC} (h : FrM y x) (hw : y.waits = false) : FrM y.less x.taken := by
  have hx : x.waits = false := h.waits.trans hw
  have e : x.taken = { x with keyed := false, left := x.left - 1 } := by unfold FC.taken; rw [if_neg (by simp [hx])]
  rw [e]
  exact ⟨h.kind, by show x.left - 1 = y.left - 1; rw [h.left], rfl, h.any, h.cur, h.last⟩
theorem frm_rise {y : Fr} {x : FC} (h : FrM y x) (hw : y.waits = true) : x.rise = (!y.any || ahead y.last y.cur) := by
  have hx : x.waits = true := h.waits.trans hw
  unfold FC.rise
  rw [if_pos hx, h.any, h.cur]
  cases ha : y.any with
  | false => rfl
  | true => rw [h.last ha]
theorem frm_full {y : Fr} {x : FC} (h : FrM y x) : x.fullT = (!y.waits && y.left == 1) := by unfold FC.fullT; rw [h.waits, h.left]
/-- An item ends: does each key that ends rise, is nothing open any more, what is open then. -/
def endS : List Fr → Bool × Bool × List Fr
  | [] => (true, true, [])
  | y :: st => if y.waits then (!y.any || ahead y.last y.cur, false, y.keyed :: st) else if y.left = 1 then endS st else (true, false, y.less :: st)

/-- Frames whose numbers of items to come lie in the type. -/
def LOk (st : List Fr) : Prop := ∀ y ∈ st, 1 ≤ y.left ∧ y.left < 18446744073709551616

set_option maxRecDepth 100000 in
theorem frame_End (w : World) (own : Nat → Nat) (s f D K : Nat) (st : List Fr) (h : StkR w own s f D K st) (hL : LOk st) :
    Calls Try.prog 63 #[.pointer (some ⟨s, 0, none⟩)] w fun e w' => e = .returned (.tuple #[.bool (endS st).1, .bool (endS st).2.1]) ∧ StkR w' own s f D K (endS st).2.2 ∧ Wi (Mine own) w w' := by
  have H := Lib.hid h
  have HL := Lib.hid hL
  obtain ⟨fs0, hD, h0, _⟩ := h
  obtain ⟨c0, c1, _⟩ := h0.cells
  have hl64 : st.length ≤ 64 := Nat.le_trans h0.hn h0.hl
  clear hD h0 hL
  generalize hN : st.length = N at *
  have HN := Lib.hid hN
  clear hN
  go_enter Try.func63, Try.ntmps63
  go_wp2_with fail
  go_loopw [12] (fun i wr => ∃ (k : Nat) (sk : List Fr), k ≤ N ∧ i = .int .i64 k ∧ sk.length + k = N ∧ endS sk = endS st ∧ LOk sk ∧ StkR wr own s f D K sk ∧ Wi (Mine own) w wr) (fun i _ => N - (intOf i).toNat)
  case atStart => exact ⟨0, st, by omega, rfl, by rw [HN.out]; rfl, rfl, HL.out, H.out, Wi.refl⟩
  case round =>
    obtain ⟨k, sk, hk, rfl, hsk, he, hLk, hR, hW⟩ := hrel
    cases sk with
    | nil =>
      simp only [List.length_nil] at hsk
      have hk2 : ¬ (k : Int) < N := by omega
      have HE := Lib.hid he
      have HR := Lib.hid hR
      have HW := Lib.hid hW
      clear he hR hW H
      go_wp2_with fail
      refine bodyPost_ret (results_tmp2 rfl _ _ _) rfl ?_
      rw [← HE.out]
      exact ⟨rfl, HR.out, HW.out⟩
    | cons y sk =>
      simp only [List.length_cons] at hsk
      have hk2 : (k : Int) < N := by omega
      obtain ⟨fs, hD, hS, hM⟩ := hR
      simp only [List.length_cons] at hS
      obtain ⟨x, hx, hm⟩ := hM.top
      have hy := hLk y List.mem_cons_self
      have HI := Lib.hid (frame_inner wr own s f K fs sk.length hS)
      have HT : Hid (∀ w', Below wr.heap.size wr w' → Calls Try.prog 79 #[.pointer (some ⟨f, sk.length * 4, none⟩)] w' fun e w'' => e = .returned (.tuple #[.bool x.rise, .bool x.fullT]) ∧ Stk w'' own s f K (fs.set sk.length x.taken) (sk.length + 1) ∧ Wi (Mine own) wr w'') := fun w' hb => by
        refine (frame_take w' own s f K fs (sk.length + 1) sk.length x (hS.on hb) hx (by rw [hm.left]; exact hy.1) (by rw [hm.left]; exact hy.2)).mono ?_
        rintro e w'' ⟨h1, h2, h3⟩
        exact ⟨h1, h2, (Wi.ofBelow hb).trans h3⟩
      cases hw : y.waits with
      | true =>
        have ee : endS (y :: sk) = (!y.any || ahead y.last y.cur, false, y.keyed :: sk) := by rw [endS, if_pos hw]
        rw [frm_rise hm hw, show x.fullT = false by rw [frm_full hm, hw]; rfl] at HT
        have HF : Hid (∀ w', Stk w' own s f K (fs.set sk.length x.taken) (sk.length + 1) → StkR w' own s f D K (y.keyed :: sk)) := fun w' h => ⟨_, by rw [List.length_set]; exact hD, h, hM.tail.set hx (frm_keyed hm hw)⟩
        have HE := Lib.hid (he.symm.trans ee)
        have HW := Lib.hid hW
        clear he ee hS hM hx hm hy hLk hW H hw hsk
        generalize (!y.any || ahead y.last y.cur) = r at *
        generalize sk.length * 4 = u at *
        go_wp2_with fail
        refine HI.out.mono ?_
        rintro e w1 ⟨rfl, b1⟩
        have HT1 := Lib.hid (HT.out w1 b1)
        clear HT
        go_wp2_with fail
        refine HT1.out.mono ?_
        rintro e w2 ⟨rfl, s2, wi2⟩
        have HS2 := Lib.hid s2
        have HW2 := Lib.hid wi2
        clear s2 wi2
        go_wp2_with fail
        refine bodyPost_ret (results_tmp2 rfl _ _ _) rfl ?_
        rw [HE.out]
        exact ⟨rfl, HF.out _ HS2.out, HW.out.trans HW2.out⟩
      | false =>
        by_cases hl1 : y.left = 1
        · have ee : endS (y :: sk) = endS sk := by rw [endS, if_neg (by simp [hw]), if_pos hl1]
          rw [show x.fullT = true by rw [frm_full hm, hw, hl1]; rfl] at HT
          generalize x.rise = r at *
          have HF : Hid (∀ w', Stk w' own s f K (fs.set sk.length x.taken) (sk.length + 1) → (w'.cell? ⟨s, 1, none⟩ = some (.int .i64 (((sk.length : Nat) : Int) + 1)) ∧ w'.frozen? ⟨s, 1, none⟩ = false) ∧ StkR (w'.setCell ⟨s, 1, none⟩ (.int .i64 sk.length)) own s f D K sk ∧ Wi (Mine own) w' (w'.setCell ⟨s, 1, none⟩ (.int .i64 sk.length))) := fun w' h => by
            have hlen : (fs.set sk.length x.taken).length = D := by rw [List.length_set]; exact hD
            have hlt := lt_of_get hx
            obtain ⟨_, a2, a3⟩ := h.cells
            refine ⟨⟨by rw [a2]; rfl, a3 1⟩, ⟨_, hlen, h.setN rfl (by rw [hlen]; omega), fun i z hz => ?_⟩, .ofOnly ((Only.refl s w').put 1 _) (Mine.of h.os)⟩
            have hi := lt_of_get hz
            simp only [List.length_reverse] at hi
            obtain ⟨x2, q1, q2⟩ := hM.tail i z hz
            exact ⟨x2, by rw [List.getElem?_set_ne (by omega)]; exact q1, q2⟩
          have HE := Lib.hid (ee.symm.trans he)
          have HW := Lib.hid hW
          have HLk : Hid (LOk sk) := fun z hz => hLk z (List.mem_cons_of_mem _ hz)
          have HSK := Lib.hid hsk
          have hm64 : sk.length < 64 := by omega
          clear he ee hS hM hx hm hy hLk hW H hw hl1 hsk
          generalize sk.length * 4 = u at *
          generalize hM : sk.length = M at *
          have HMM := Lib.hid hM
          clear hM
          go_wp2_with fail
          refine HI.out.mono ?_
          rintro e w1 ⟨rfl, b1⟩
          have HT1 := Lib.hid (HT.out w1 b1)
          clear HT
          go_wp2_with fail
          refine HT1.out.mono ?_
          rintro e w2 ⟨rfl, s2, wi2⟩
          obtain ⟨⟨q1, q2⟩, q3, q4⟩ := HF.out w2 s2
          have HS2 := Lib.hid q3
          have HW2 := Lib.hid (HW.out.trans (wi2.trans q4))
          clear s2 wi2 q3 q4 HF c1
          go_wp2_with fail
          go_roundw
          case rel => exact ⟨k + 1, sk, by omega, by go_num, by have := HSK.out; have := HMM.out; omega, HE.out, HLk.out, HS2.out, HW2.out⟩
          case measure => simp [intOf]; omega
        · have ee : endS (y :: sk) = (true, false, y.less :: sk) := by rw [endS, if_neg (by simp [hw]), if_neg hl1]
          rw [show x.rise = true by unfold FC.rise; rw [if_neg (by rw [hm.waits, hw]; decide)], show x.fullT = false by rw [frm_full hm, hw]; simpa using hl1] at HT
          have HF : Hid (∀ w', Stk w' own s f K (fs.set sk.length x.taken) (sk.length + 1) → StkR w' own s f D K (y.less :: sk)) := fun w' h => ⟨_, by rw [List.length_set]; exact hD, h, hM.tail.set hx (frm_less hm hw)⟩
          have HE := Lib.hid (he.symm.trans ee)
          have HW := Lib.hid hW
          clear he ee hS hM hx hm hy hLk hW H hw hsk hl1
          generalize sk.length * 4 = u at *
          go_wp2_with fail
          refine HI.out.mono ?_
          rintro e w1 ⟨rfl, b1⟩
          have HT1 := Lib.hid (HT.out w1 b1)
          clear HT
          go_wp2_with fail
          refine HT1.out.mono ?_
          rintro e w2 ⟨rfl, s2, wi2⟩
          have HS2 := Lib.hid s2
          have HW2 := Lib.hid wi2
          clear s2 wi2
          go_wp2_with fail
          refine bodyPost_ret (results_tmp2 rfl _ _ _) rfl ?_
          rw [HE.out]
          exact ⟨rfl, HF.out _ HS2.out, HW.out.trans HW2.out⟩
end Go.Proofs.Ytchhbcmkhbfpoaa

/- Package frame: Byte, Open, Depth, Kind, Key. -/
namespace Go.Proofs.Ytchhbcmkhbfpoaa
open Go.RowKit

/-- The first k frames have had the byte, if they could take it. -/
def fedK (K : Nat) (c : Int) (y : Fr) : Fr := if y.full K then y else y.feeds [c]
theorem frm_feeds {K : Nat} {y : Fr} {x : FC} {c : Int} (h : FrM y x) (hw : y.waits = true) (hf : y.full K = false) : FrM (fedK K c y) { x with k := { x.k with b := x.k.b ++ [c] } } := by
  have e : fedK K c y = { y with cur := y.cur ++ [c] } := by unfold fedK Fr.feeds; rw [if_neg (by simp [hf]), if_pos hw]
  rw [e]
  exact ⟨h.kind, h.left, h.half, h.any, by show x.k.b ++ [c] = y.cur ++ [c]; rw [h.cur], h.last⟩
theorem frm_stays {K : Nat} {y : Fr} {x : FC} {c : Int} (h : FrM y x) (hw : y.waits = false ∨ y.full K = true) : FrM (fedK K c y) x := by
  have e : fedK K c y = y := by
    unfold fedK Fr.feeds
    rcases hw with hw | hw
    · split
      · rfl
      · rw [if_neg (by simp [hw])]
    · rw [if_pos hw]
  rw [e]; exact h
/-- Under way. -/
structure Fed (w : World) (own : Nat → Nat) (s f D K : Nat) (st : List Fr) (c : Int) (k : Nat) (fs : List FC) : Prop where
  len : fs.length = D
  stk : Stk w own s f K fs st.length
  low : ∀ (i : Nat) (y : Fr), i < k → st.reverse[i]? = some y → ∃ x : FC, fs[i]? = some x ∧ FrM (fedK K c y) x
  high : ∀ (i : Nat) (y : Fr), k ≤ i → st.reverse[i]? = some y → ∃ x : FC, fs[i]? = some x ∧ FrM y x
theorem Fed.next {w w' : World} {own : Nat → Nat} {s f D K : Nat} {st : List Fr} {c : Int} {k : Nat} {fs : List FC} (h : Fed w own s f D K st c k fs) {y : Fr} (hy : st.reverse[k]? = some y) {x' : FC} {fs' : List FC} (hl : fs'.length = D) (hS : Stk w' own s f K fs' st.length) (hx : fs'[k]? = some x') (hm : FrM (fedK K c y) x') (hn : ∀ i, i ≠ k → fs'[i]? = fs[i]?) : Fed w' own s f D K st c (k + 1) fs' :=
  ⟨hl, hS, fun i z hi hz => by
    by_cases e : i = k
    · subst e
      rw [hy] at hz; injection hz with hz; subst hz
      exact ⟨x', hx, hm⟩
    · obtain ⟨x, h1, h2⟩ := h.low i z (by omega) hz
      exact ⟨x, by rw [hn i e]; exact h1, h2⟩, fun i z hi hz => by
    obtain ⟨x, h1, h2⟩ := h.high i z (by omega) hz
    exact ⟨x, by rw [hn i (by omega)]; exact h1, h2⟩⟩
theorem any_take_succ {l : List Fr} {k : Nat} {y : Fr} (h : l[k]? = some y) (p : Fr → Bool) : (l.take (k + 1)).any p = ((l.take k).any p || p y) := by
  rw [List.take_add_one, h]; simp

set_option maxRecDepth 100000 in
theorem frame_Byte (w : World) (own : Nat → Nat) (s f D K : Nat) (st : List Fr) (c : Int) (h : StkR w own s f D K st) (h0 : 0 ≤ c) (h1 : c < 256) :
    Calls Try.prog 48 #[.pointer (some ⟨s, 0, none⟩), .int .u8 c] w fun e w' => e = .returned (.bool (!st.any (Fr.full K))) ∧ StkW w' own s f D K ∧ (st.any (Fr.full K) = false → StkR w' own s f D K (st.map (Fr.feeds [c]))) ∧ Wi (Mine own) w w' := by
  obtain ⟨fs0, hD, hS0, hM0⟩ := h
  obtain ⟨c0, c1, _⟩ := hS0.cells
  have F0 := Lib.hid (show Fed w own s f D K st c 0 fs0 from ⟨hD, hS0, fun i y hi => absurd hi (by omega), fun i y _ hy => hM0 i y hy⟩)
  have hl64 : st.length ≤ 64 := Nat.le_trans hS0.hn hS0.hl
  have HB : Hid (0 ≤ c ∧ c < 256) := ⟨h0, h1⟩
  have HR : Hid (st.reverse.length = st.length) := Lib.hid List.length_reverse
  have HA : Hid (st.reverse.any (Fr.full K) = st.any (Fr.full K)) := Lib.hid List.any_reverse
  rw [hD] at c0
  clear hD hS0 hM0 h0 h1
  generalize st.any (Fr.full K) = bad at *
  generalize hN : st.length = N at *
  have HN := Lib.hid hN
  clear hN
  go_enter Try.func48, Try.ntmps48
  go_wp2_with fail
  go_loopw [5, 14] (fun t i wr => ∃ (k : Nat) (fs : List FC), k ≤ N ∧ i = .int .i64 k ∧ t = .bool (!(st.reverse.take k).any (Fr.full K)) ∧ Fed wr own s f D K st c k fs ∧ Wi (Mine own) w wr) (fun _ i _ => N - (intOf i).toNat)
  case atStart => exact ⟨0, fs0, by omega, rfl, rfl, F0.out, Wi.refl⟩
  case round =>
    obtain ⟨k, fs, hk, rfl, rfl, hF, hW⟩ := hrel
    by_cases hlt : k < N
    · have hlt' : (k : Int) < N := by omega
      obtain ⟨y, hy⟩ : ∃ y, st.reverse[k]? = some y := ⟨_, List.getElem?_eq_getElem (by rw [HR.out]; exact hlt)⟩
      have HT := Lib.hid (any_take_succ hy (Fr.full K))
      obtain ⟨x, hx, hm⟩ := hF.high k y (Nat.le_refl _) hy
      obtain ⟨d0, d1, d2, d3, _⟩ := hF.stk.fcell hx
      obtain ⟨e0, e1, _⟩ := hF.stk.cells
      rw [hF.len] at e0
      have hkD : k < D := by rw [← hF.len]; exact lt_of_get hx
      have RI := fun w => run_frame w f D D k (k : Int) rfl hkD
      have HWt := Lib.hid (frame_waits wr f (k * 4) x.kind x.keyed d1 d3)
      obtain ⟨k1, k2, k3, k4, k5, k6⟩ := hF.stk.ks k x hx
      rw [show (x.kind == 5 && !x.keyed) = y.waits from hm.waits] at HWt
      cases hw : y.waits with
      | false =>
        rw [hw] at HWt
        have hff : y.full K = false := by unfold Fr.full; rw [hw]; rfl
        have HN1 := Lib.hid (hF.next (w' := wr) hy hF.len hF.stk hx (frm_stays (K := K) (c := c) hm (.inl hw)) (fun _ _ => rfl))
        rw [hff, Bool.or_false] at HT
        have HW := Lib.hid hW
        clear hF hx hm hy k1 k2 k3 k4 k5 k6 hw hff d1 d2 d3 hW F0 HB hlt hkD
        generalize (st.reverse.take k).any (Fr.full K) = b at *
        generalize k * 4 = u at *
        go_wp2_with fail
        refine HWt.out.mono ?_
        rintro e w' ⟨rfl, rfl⟩
        go_wp2_with fail
        go_roundw
        case rel => exact ⟨k + 1, fs, by omega, by go_num, by rw [HT.out], HN1.out, HW.out⟩
        case measure => simp [intOf]; omega
      | true =>
        rw [hw] at HWt
        cases hff : y.full K with
        | true =>
          have hlen : x.k.b.length = K := by
            unfold Fr.full at hff
            rw [hw, Bool.true_and] at hff
            rw [hm.cur]; simpa using hff
          have HBy := Lib.hid (order_Byte_full wr _ _ _ _ _ _ _ c k1 hlen)
          have HN1 : Hid (∀ w', Ks w' x.k.g x.k.p x.k.q K x.k.a x.k.b x.k.e → Tri x.k.g x.k.p x.k.q wr w' → Fed w' own s f D K st c (k + 1) fs ∧ Wi (Mine own) w w') := fun w' hk' ht => by
            have hs := hF.stk.setK (k' := x.k) hx ht rfl k3 k4 hk' k5 k6
            have : fs.set k { x with k := x.k } = fs := set_self hx
            rw [this] at hs
            exact ⟨hF.next hy hF.len hs hx (frm_stays hm (.inr hff)) (fun _ _ => rfl), hW.trans (.ofTri ht (Mine.of k2) (Mine.of k3) (Mine.of k4))⟩
          rw [hff, Bool.or_true] at HT
          clear hF hm hy k1 k2 k3 k4 k5 k6 hw hff d1 d2 d3 hW F0 HB hlt hkD hx
          generalize (st.reverse.take k).any (Fr.full K) = b at *
          generalize x.k.g = g at *
          generalize k * 4 = u at *
          go_wp2_with fail
          refine HWt.out.mono ?_
          rintro e w' ⟨rfl, rfl⟩
          go_wp2_with fail
          refine HBy.out.mono ?_
          rintro e w2 ⟨rfl, a1, a2⟩
          have HN2 := Lib.hid (HN1.out _ a1 a2)
          clear a1 a2 HN1
          go_wp2_with fail
          go_roundw
          case rel => exact ⟨k + 1, fs, by omega, by go_num, by rw [HT.out]; rfl, HN2.out⟩
          case measure => simp [intOf]; omega
        | false =>
          have hlen : x.k.b.length < K := by
            have hle := k1.le2
            unfold Fr.full at hff
            rw [hw, Bool.true_and, ← hm.cur] at hff
            have : x.k.b.length ≠ K := by simpa using hff
            omega
          have HBy := Lib.hid (order_Byte wr _ _ _ _ _ _ _ c k1 hlen)
          have HN1 : Hid (∀ w', Ks w' x.k.g x.k.p x.k.q K x.k.a (x.k.b ++ [c]) x.k.e → Tri x.k.g x.k.p x.k.q wr w' → Fed w' own s f D K st c (k + 1) (fs.set k { x with k := { x.k with b := x.k.b ++ [c] } }) ∧ Wi (Mine own) w w') := fun w' hk' ht => by
            have hs := hF.stk.setK (k' := { x.k with b := x.k.b ++ [c] }) hx ht rfl k3 k4 hk' k5 (byte_append k6 (fun z hz => by rw [List.mem_singleton.1 hz]; exact HB.out))
            exact ⟨hF.next hy (by rw [List.length_set]; exact hF.len) hs (List.getElem?_set_self (lt_of_get hx)) (frm_feeds hm hw hff) (fun i hi => List.getElem?_set_ne (Ne.symm hi)), hW.trans (.ofTri ht (Mine.of k2) (Mine.of k3) (Mine.of k4))⟩
          rw [hff, Bool.or_false] at HT
          clear hF hm hy k1 k2 k3 k4 k5 k6 hw hff d1 d2 d3 hW F0 HB hlt hkD hx hlen
          generalize (st.reverse.take k).any (Fr.full K) = b at *
          generalize fs.set k { x with k := { x.k with b := x.k.b ++ [c] } } = fs' at *
          generalize x.k.b ++ [c] = bc at *
          generalize x.k.g = g at *
          generalize k * 4 = u at *
          go_wp2_with fail
          refine HWt.out.mono ?_
          rintro e w' ⟨rfl, rfl⟩
          go_wp2_with fail
          refine HBy.out.mono ?_
          rintro e w2 ⟨rfl, a1, a2⟩
          have HN2 := Lib.hid (HN1.out _ a1 a2)
          clear a1 a2 HN1
          go_wp2_with fail
          go_roundw
          case rel => exact ⟨k + 1, fs', by omega, by go_num, by rw [HT.out], HN2.out⟩
          case measure => simp [intOf]; omega
    · have hkN : k = N := by omega
      subst hkN
      have hlt' : ¬ (k : Int) < k := by omega
      rw [← HR.out, List.take_length, HA.out]
      have HE : Hid (StkW wr own s f D K ∧ (bad = false → StkR wr own s f D K (st.map (Fr.feeds [c])))) := by
        refine ⟨⟨fs, _, hF.len, hF.stk⟩, fun hb => ⟨fs, hF.len, by rw [List.length_map]; exact hF.stk, fun i z hz => ?_⟩⟩
        rw [← List.map_reverse, List.getElem?_map] at hz
        cases hy : st.reverse[i]? with
        | none => rw [hy] at hz; cases hz
        | some y =>
          rw [hy] at hz
          injection hz with hz
          subst hz
          obtain ⟨x, q1, q2⟩ := hF.low i y (by rw [← HR.out]; exact lt_of_get hy) hy
          refine ⟨x, q1, ?_⟩
          have : y.full K = false := by
            have hb2 : st.reverse.any (Fr.full K) = false := by rw [HA.out]; exact hb
            have := List.any_eq_false.1 hb2 y (List.mem_of_getElem? hy)
            simpa using this
          unfold fedK at q2
          rwa [if_neg (by simp [this])] at q2
      have HW := Lib.hid hW
      clear hF hW F0 HB
      go_wp2_with fail
      go_ret
      exact ⟨rfl, HE.out.1, HE.out.2, HW.out⟩
end Go.Proofs.Ytchhbcmkhbfpoaa

/- Package frame: Open, Depth, Kind, Key. -/
namespace Go.Proofs.Ytchhbcmkhbfpoaa
open Go.RowKit

set_option maxRecDepth 100000 in
set_option maxHeartbeats 1000000 in
theorem frame_Open (w : World) (own : Nat → Nat) (s f D K : Nat) (st : List Fr) (kind items it : Int) (h : StkR w own s f D K st) (hlt : st.length < D) (hk : ((kind = 4 ∨ kind = 5) ∧ ¬ items = 0 ∧ it = items) ∨ (kind = 6 ∧ it = 1)) :
    Calls Try.prog 70 #[.pointer (some ⟨s, 0, none⟩), .int .i64 kind, .int .u64 items] w fun e w' => e = .returned (.bool true) ∧ StkR w' own s f D K (⟨kind, it, false, [], [], false⟩ :: st) ∧ Wi (Mine own) w w' := by
  obtain ⟨fs, hD, hS, hM⟩ := h
  obtain ⟨x, hx⟩ : ∃ x, fs[st.length]? = some x := ⟨_, List.getElem?_eq_getElem (by omega)⟩
  have c0 := hS.cells.1
  have c1 := hS.cells.2.1
  rw [hD] at c0
  obtain ⟨d0, _⟩ := hS.fcell hx
  obtain ⟨k1, k2, k3, k4, k5, k6⟩ := hS.ks _ x hx
  have hl64 := hS.hl
  rw [hD] at hl64
  have HRe := Lib.hid (order_Reset (w.drew.drew) _ _ _ _ _ _ _ (k1.on (below_drawn (below_drawn (Below.refl _ _)))))
  have RI := fun w => run_frame w f D D st.length (st.length : Int) rfl hlt
  have HF : Hid (∀ w', Ks w' x.k.g x.k.p x.k.q K x.k.a [] false → Tri x.k.g x.k.p x.k.q w.drew.drew w' → ((w'.frozen? ⟨f, st.length * 4 + 1, none⟩ = false ∧ w'.frozen? ⟨f, st.length * 4 + 2, none⟩ = false ∧ w'.frozen? ⟨f, st.length * 4 + 3, none⟩ = false ∧ (∃ v, w'.cell? ⟨f, st.length * 4 + 1, none⟩ = some v) ∧ (∃ v, w'.cell? ⟨f, st.length * 4 + 2, none⟩ = some v) ∧ (∃ v, w'.cell? ⟨f, st.length * 4 + 3, none⟩ = some v)) ∧
      ∀ w3, w3 = ((w'.setCell ⟨f, st.length * 4 + 1, none⟩ (.int .i64 kind)).setCell ⟨f, st.length * 4 + 2, none⟩ (.int .u64 it)).setCell ⟨f, st.length * 4 + 3, none⟩ (.bool false) →
        ((w3.cell? ⟨s, 1, none⟩ = some (.int .i64 st.length) ∧ w3.frozen? ⟨s, 1, none⟩ = false) ∧ StkR (w3.setCell ⟨s, 1, none⟩ (.int .i64 ((st.length : Int) + 1))) own s f D K (⟨kind, it, false, [], [], false⟩ :: st) ∧ Wi (Mine own) w (w3.setCell ⟨s, 1, none⟩ (.int .i64 ((st.length : Int) + 1)))))) := fun w' hk' ht => by
    have hx0 := hx
    have s0 := (hS.on (below_drawn (below_drawn (Below.refl _ w)))).setK (k' := ⟨x.k.g, x.k.p, x.k.q, x.k.a, [], false⟩) hx ht rfl k3 k4 hk' k5 (fun y hy => by cases hy)
    have w0 : Wi (Mine own) w w' := (Wi.ofBelow (below_drawn (below_drawn (Below.refl _ _)))).trans (.ofTri ht (Mine.of k2) (Mine.of k3) (Mine.of k4))
    have g : ∀ z : FC, (fs.set st.length z)[st.length]? = some z := fun z => List.getElem?_set_self (lt_of_get hx)
    obtain ⟨v0, v1, v2, v3, fz⟩ := s0.fcell (g _)
    refine ⟨⟨fz _, fz _, fz _, ⟨_, v1⟩, ⟨_, v2⟩, ⟨_, v3⟩⟩, fun w3 hw3 => ?_⟩
    have s1 := s0.setF (x' := ⟨kind, x.left, x.keyed, ⟨x.k.g, x.k.p, x.k.q, x.k.a, [], false⟩⟩) (v := .int .i64 kind) (g _) (by decide : 1 < 4) rfl rfl
    rw [List.set_set] at s1
    have s2 := s1.setF (x' := ⟨kind, it, x.keyed, ⟨x.k.g, x.k.p, x.k.q, x.k.a, [], false⟩⟩) (v := .int .u64 it) (g _) (by decide : 2 < 4) rfl rfl
    rw [List.set_set] at s2
    have s3 := s2.setF (x' := ⟨kind, it, false, ⟨x.k.g, x.k.p, x.k.q, x.k.a, [], false⟩⟩) (v := .bool false) (g _) (by decide : 3 < 4) rfl rfl
    rw [List.set_set, ← hw3] at s3
    have hlen : (fs.set st.length ⟨kind, it, false, ⟨x.k.g, x.k.p, x.k.q, x.k.a, [], false⟩⟩).length = D := by rw [List.length_set]; exact hD
    have w3' : Wi (Mine own) w w3 := by
      rw [hw3]
      exact w0.trans (.ofOnly ((((Only.refl f w').put _ _).put _ _).put _ _) (Mine.of hS.of))
    refine ⟨⟨s3.cells.2.1, s3.cells.2.2 1⟩, ⟨_, hlen, s3.setN (by simp) (by rw [hlen]; simp; omega), hM.set hx ⟨rfl, rfl, rfl, rfl, rfl, fun h => by cases h⟩⟩, w3'.trans (.ofOnly ((Only.refl s w3).put 1 _) (Mine.of hS.os))⟩
  have hltI : ¬ (st.length : Int) = D := by omega
  have hn64 : (st.length : Int) < 64 := by omega
  have hn0 : (0 : Int) ≤ (st.length : Int) := by omega
  clear hS hM hx k1 k2 k3 k4 k5 k6 hD hlt hl64
  generalize x.k.g = g at *
  generalize st.length * 4 = u at *
  generalize hN : (st.length : Int) = N at *
  clear hN
  rcases hk with ⟨rfl | rfl, hi, rfl⟩ | ⟨rfl, rfl⟩
  all_goals
    go_enter Try.func70, Try.ntmps70
    go_wp2_with fail
    go_region
    go_wp2_with fail
    go_region
    go_wp2_with fail
    refine HRe.out.mono ?_
    rintro e w1 ⟨rfl, a1, a2⟩
    obtain ⟨⟨f1, f2, f3, ⟨v1, q1⟩, ⟨v2, q2⟩, ⟨v3, q3⟩⟩, H3⟩ := HF.out w1 a1 a2
    have ⟨⟨r1, r2⟩, H4⟩ := H3 _ rfl
    have HX := Lib.hid H4
    clear a1 a2 H3 H4 HRe HF
    go_wp2_with fail
    go_ret
    exact ⟨rfl, HX.out⟩
theorem frame_Open0 (w : World) (own : Nat → Nat) (s f D K : Nat) (st : List Fr) (kind : Int) (h : StkR w own s f D K st) (hlt : st.length < D) (hk : kind = 4 ∨ kind = 5) :
    Calls Try.prog 70 #[.pointer (some ⟨s, 0, none⟩), .int .i64 kind, .int .u64 0] w fun e w' => e = .returned (.bool false) ∧ Below w.heap.size w w' := by
  obtain ⟨fs, hD, hS, hM⟩ := h
  have c0 := hS.cells.1
  have c1 := hS.cells.2.1
  rw [hD] at c0
  have hltI : ¬ (st.length : Int) = D := by omega
  clear hS hM hD hlt
  generalize hN : (st.length : Int) = N at *
  clear hN
  rcases hk with rfl | rfl
  all_goals
    go_enter Try.func70, Try.ntmps70
    go_wp2_with fail
    go_region
    go_wp2_with fail
    go_ret
    exact ⟨rfl, below_drawn (Below.refl _ _)⟩
theorem frame_Depth (w : World) (own : Nat → Nat) (s f D K : Nat) (st : List Fr) (h : StkR w own s f D K st) :
    Calls Try.prog 62 #[.pointer (some ⟨s, 0, none⟩)] w fun e w' => e = .returned (.int .i64 st.length) ∧ w' = w := by
  obtain ⟨fs, hD, hS, hM⟩ := h
  have c1 := hS.cells.2.1
  clear hS hM hD
  go_enter Try.func62, Try.ntmps62
  go_wp2_with fail
  go_ret
  exact ⟨rfl, rfl⟩
/-- The innermost frame's kind; -1: none. -/
def kindS : List Fr → Int
  | [] => -1
  | y :: _ => y.kind
def keyS : List Fr → Bool
  | [] => false
  | y :: _ => y.waits
theorem frame_Kind (w : World) (own : Nat → Nat) (s f D K : Nat) (st : List Fr) (h : StkR w own s f D K st) :
    Calls Try.prog 64 #[.pointer (some ⟨s, 0, none⟩)] w fun e w' => e = .returned (.int .i64 (kindS st)) ∧ Below w.heap.size w w' := by
  obtain ⟨fs, hD, hS, hM⟩ := h
  cases st with
  | nil =>
    have HI := Lib.hid (frame_inner0 w own s f K fs hS)
    clear hS hM hD
    go_enter Try.func64, Try.ntmps64
    go_wp2_with fail
    refine HI.out.mono ?_
    rintro e w1 ⟨rfl, b1⟩
    have B1 := Lib.hid b1
    clear b1
    go_wp2_with fail
    go_ret
    exact ⟨rfl, B1.out⟩
  | cons y st =>
    have HI := Lib.hid (frame_inner w own s f K fs st.length hS)
    obtain ⟨x, hx, hm⟩ := hM.top
    have HC : Hid (∀ w', Below w.heap.size w w' → w'.cell? ⟨f, st.length * 4 + 1, none⟩ = some (.int .i64 y.kind)) := fun w' hb => by rw [← hm.kind]; exact ((hS.on hb).fcell hx).2.1
    have e : kindS (y :: st) = y.kind := rfl
    rw [e]
    clear hS hM hD hx hm e
    generalize st.length * 4 = u at *
    generalize y.kind = k at *
    go_enter Try.func64, Try.ntmps64
    go_wp2_with fail
    refine HI.out.mono ?_
    rintro e w1 ⟨rfl, b1⟩
    have d1 := HC.out w1 b1
    have B1 := Lib.hid b1
    clear b1
    go_wp2_with fail
    go_ret
    exact ⟨rfl, B1.out⟩
theorem frame_Key (w : World) (own : Nat → Nat) (s f D K : Nat) (st : List Fr) (h : StkR w own s f D K st) :
    Calls Try.prog 65 #[.pointer (some ⟨s, 0, none⟩)] w fun e w' => e = .returned (.bool (keyS st)) ∧ Below w.heap.size w w' := by
  obtain ⟨fs, hD, hS, hM⟩ := h
  cases st with
  | nil =>
    have HI := Lib.hid (frame_inner0 w own s f K fs hS)
    clear hS hM hD
    go_enter Try.func65, Try.ntmps65
    go_wp2_with fail
    refine HI.out.mono ?_
    rintro e w1 ⟨rfl, b1⟩
    have B1 := Lib.hid b1
    clear b1
    go_wp2_with fail
    go_ret
    exact ⟨rfl, B1.out⟩
  | cons y st =>
    have HI := Lib.hid (frame_inner w own s f K fs st.length hS)
    obtain ⟨x, hx, hm⟩ := hM.top
    have HC : Hid (∀ w', Below w.heap.size w w' → Calls Try.prog 58 #[.pointer (some ⟨f, st.length * 4, none⟩)] w' fun e w'' => e = .returned (.bool y.waits) ∧ w'' = w') := fun w' hb => by
      have := (hS.on hb).fcell hx
      have := frame_waits w' f (st.length * 4) x.kind x.keyed this.2.1 this.2.2.2.1
      rwa [show (x.kind == 5 && !x.keyed) = y.waits from hm.waits] at this
    have e : keyS (y :: st) = y.waits := rfl
    rw [e]
    clear hS hM hD hx hm e
    generalize st.length * 4 = u at *
    generalize y.waits = k at *
    go_enter Try.func65, Try.ntmps65
    go_wp2_with fail
    refine HI.out.mono ?_
    rintro e w1 ⟨rfl, b1⟩
    have d1 := Lib.hid (HC.out w1 b1)
    have B1 := Lib.hid b1
    clear b1
    go_wp2_with fail
    refine d1.out.mono ?_
    rintro e w2 ⟨rfl, rfl⟩
    go_wp2_with fail
    go_ret
    exact ⟨rfl, B1.out⟩
end Go.Proofs.Ytchhbcmkhbfpoaa
