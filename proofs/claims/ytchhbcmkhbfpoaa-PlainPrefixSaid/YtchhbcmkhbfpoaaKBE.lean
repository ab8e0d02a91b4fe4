/- Package frame: a frame's functions. -/
import Derived.Test.YtchhbcmkhbfpoaaKBD
import Derived.Test.YtchhbcmkhbfpoaaKAK
namespace Go.Proofs.Ytchhbcmkhbfpoaa
open Go.RowKit

def FC.waits (x : FC) : Bool := x.kind == 5 && !x.keyed
theorem frame_waits (w : World) (f u : Nat) (kind : Int) (keyed : Bool) (c1 : w.cell? ⟨f, u + 1, none⟩ = some (.int .i64 kind)) (c3 : w.cell? ⟨f, u + 3, none⟩ = some (.bool keyed)) :
    Calls Try.prog 58 #[.pointer (some ⟨f, u, none⟩)] w fun e w' => e = .returned (.bool (kind == 5 && !keyed)) ∧ w' = w := by
  by_cases hk : kind = 5
  · subst hk
    go_enter Try.func58, Try.ntmps58
    go_wp2_with fail
    go_ret
    exact ⟨by simp, rfl⟩
  · have hb : (kind == 5) = false := by simpa using hk
    rw [hb, Bool.false_and]
    go_enter Try.func58, Try.ntmps58
    go_wp2_with fail
    go_ret
    exact ⟨rfl, rfl⟩

set_option maxRecDepth 100000 in
theorem frame_inner (w : World) (own : Nat → Nat) (s f K : Nat) (fs : List FC) (n : Nat) (h : Stk w own s f K fs (n + 1)) :
    Calls Try.prog 78 #[.pointer (some ⟨s, 0, none⟩)] w fun e w' => e = .returned (.pointer (some ⟨f, n * 4, none⟩)) ∧ Below w.heap.size w w' := by
  obtain ⟨c0, c1, _⟩ := h.cells
  have hn := h.hn
  have hl := h.hl
  generalize fs.length = D at *
  have RI := fun w => run_frame w f D D n (n : Int) rfl (by omega)
  have e1 : ((n + 1 : Nat) : Int) = (n : Int) + 1 := by omega
  rw [e1] at c1
  have e2 : ¬ (n : Int) + 1 = 0 := by omega
  clear h e1
  go_enter Try.func78, Try.ntmps78
  go_wp2_with fail
  go_region
  go_wp2_with fail
  go_ret
  exact ⟨rfl, below_drawn (Below.refl _ _)⟩
theorem frame_inner0 (w : World) (own : Nat → Nat) (s f K : Nat) (fs : List FC) (h : Stk w own s f K fs 0) :
    Calls Try.prog 78 #[.pointer (some ⟨s, 0, none⟩)] w fun e w' => e = .returned (.pointer none) ∧ Below w.heap.size w w' := by
  obtain ⟨c0, c1, _⟩ := h.cells
  have e1 : ((0 : Nat) : Int) = 0 := rfl
  rw [e1] at c1
  clear h e1
  go_enter Try.func78, Try.ntmps78
  go_wp2_with fail
  go_ret
  exact ⟨rfl, Below.refl _ _⟩

/-- A frame in which an item has ended. -/
def FC.taken (x : FC) : FC := if x.waits then { x with keyed := true, k := ⟨x.k.g, x.k.q, x.k.p, x.k.b, [], true⟩ } else { x with keyed := false, left := x.left - 1 }
def FC.rise (x : FC) : Bool := if x.waits then !x.k.e || ahead x.k.a x.k.b else true
def FC.fullT (x : FC) : Bool := !x.waits && x.left == 1
def Mine (own : Nat → Nat) (i : Nat) : Prop := own i ≠ 0
theorem Mine.of {own : Nat → Nat} {i k : Nat} (h : own i = k + 1) : Mine own i := by unfold Mine; omega
theorem Stk.keys {w : World} {own : Nat → Nat} {s f K : Nat} {fs : List FC} {n : Nat} (h : Stk w own s f K fs n) {i : Nat} {x : FC} (hx : fs[i]? = some x) : Ks w x.k.g x.k.p x.k.q K x.k.a x.k.b x.k.e := (h.ks i x hx).1

set_option maxRecDepth 100000 in
theorem frame_take (w : World) (own : Nat → Nat) (s f K : Nat) (fs : List FC) (n i : Nat) (x : FC) (h : Stk w own s f K fs n) (hx : fs[i]? = some x) (h1 : 1 ≤ x.left) (h2 : x.left < 18446744073709551616) :
    Calls Try.prog 79 #[.pointer (some ⟨f, i * 4, none⟩)] w fun e w' => e = .returned (.tuple #[.bool x.rise, .bool x.fullT]) ∧ Stk w' own s f K (fs.set i x.taken) n ∧ Wi (Mine own) w w' := by
  obtain ⟨d0, d1, d2, d3, hf⟩ := h.fcell hx
  have mf := Lib.hid (Mine.of h.of)
  cases hw : x.waits with
  | true =>
    have HW := Lib.hid (frame_waits w f (i * 4) x.kind x.keyed d1 d3)
    rw [show (x.kind == 5 && !x.keyed) = true from hw] at HW
    have er : x.rise = (!x.k.e || ahead x.k.a x.k.b) := by unfold FC.rise; rw [if_pos hw]
    have ef : x.fullT = false := by unfold FC.fullT; rw [hw]; rfl
    have et : x.taken = { x with keyed := true, k := ⟨x.k.g, x.k.q, x.k.p, x.k.b, [], true⟩ } := by unfold FC.taken; rw [if_pos hw]
    rw [er, ef, et]
    have S1 := h.setF (x' := { x with keyed := true }) (v := .bool true) hx (by decide : 3 < 4) rfl rfl
    have hx1 : (fs.set i { x with keyed := true })[i]? = some { x with keyed := true } := List.getElem?_set_self (lt_of_get hx)
    obtain ⟨_, k2, k3, k4, k5, k6⟩ := h.ks i x hx
    have W1 := Lib.hid (Wi.ofOnly (S := Mine own) ((Only.refl f w).put (i * 4 + 3) (.bool true)) mf.out)
    have f3 := hf (i * 4 + 3)
    generalize hw1 : w.setCell ⟨f, i * 4 + 3, none⟩ (.bool true) = w1 at *
    obtain ⟨e0, e1, e2, e3, _⟩ := S1.fcell hx1
    dsimp only at e0 e1 e2 e3
    have HE := Lib.hid (order_End w1 _ _ _ _ _ _ _ (S1.keys hx1) k5 k6)
    have HF : Hid (∀ w', Ks w' x.k.g x.k.q x.k.p K x.k.b [] true → Tri x.k.g x.k.p x.k.q w1 w' → Stk w' own s f K (fs.set i { x with keyed := true, k := ⟨x.k.g, x.k.q, x.k.p, x.k.b, [], true⟩ }) n ∧ Wi (Mine own) w w') := fun w' hk ht => by
      have := S1.setK (k' := ⟨x.k.g, x.k.q, x.k.p, x.k.b, [], true⟩) hx1 ht rfl k4 k3 hk k6 (fun y hy => by cases hy)
      rw [List.set_set] at this
      exact ⟨this, W1.out.trans (.ofTri ht (Mine.of k2) (Mine.of k3) (Mine.of k4))⟩
    dsimp only at HE
    generalize (!x.k.e || ahead x.k.a x.k.b) = r at *
    generalize x.k.g = g at *
    clear h S1 hx1 er ef et hw hf
    go_enter Try.func79, Try.ntmps79
    go_wp2_with fail
    refine HW.out.mono ?_
    rintro e w' ⟨rfl, rfl⟩
    go_wp2_with fail
    refine HE.out.mono ?_
    rintro e w' ⟨rfl, hk, ht⟩
    have HK := Lib.hid (HF.out w' hk ht)
    clear hk ht
    go_wp2_with fail
    refine bodyPost_ret (results_tmp2 rfl _ _ _) rfl ?_
    exact ⟨rfl, HK.out⟩
  | false =>
    have HW := Lib.hid (frame_waits w f (i * 4) x.kind x.keyed d1 d3)
    rw [show (x.kind == 5 && !x.keyed) = false from hw] at HW
    have er : x.rise = true := by unfold FC.rise; rw [if_neg (by simp [hw])]
    have ef : x.fullT = (x.left - 1 == 0) := by unfold FC.fullT; rw [hw]; simp; rw [Bool.eq_iff_iff]; simp; omega
    have et : x.taken = { x with keyed := false, left := x.left - 1 } := by unfold FC.taken; rw [if_neg (by simp [hw])]
    rw [er, ef, et]
    have S1 := h.setF (x' := { x with keyed := false }) (v := .bool false) hx (by decide : 3 < 4) rfl rfl
    have hx1 : (fs.set i { x with keyed := false })[i]? = some { x with keyed := false } := List.getElem?_set_self (lt_of_get hx)
    have W1 := Lib.hid (Wi.ofOnly (S := Mine own) ((Only.refl f w).put (i * 4 + 3) (.bool false)) mf.out)
    have f3 := hf (i * 4 + 3)
    generalize hw1 : w.setCell ⟨f, i * 4 + 3, none⟩ (.bool false) = w1 at *
    obtain ⟨e0, e1, e2, e3, fz⟩ := S1.fcell hx1
    have f2 := fz (i * 4 + 2)
    have S2 := S1.setF (x' := { x with keyed := false, left := x.left - 1 }) (v := .int .u64 (x.left - 1)) hx1 (by decide : 2 < 4) rfl rfl
    rw [List.set_set] at S2
    have hx2 : (fs.set i { x with keyed := false, left := x.left - 1 })[i]? = some { x with keyed := false, left := x.left - 1 } := List.getElem?_set_self (lt_of_get hx)
    have W2 := Lib.hid (W1.out.trans (Wi.ofOnly (S := Mine own) ((Only.refl f w1).put (i * 4 + 2) (.int .u64 (x.left - 1))) mf.out))
    obtain ⟨w2, hw2⟩ : ∃ w2, w1.setCell ⟨f, i * 4 + 2, none⟩ (.int .u64 (x.left - 1)) = w2 := ⟨_, rfl⟩
    rw [hw2] at S2 W2
    obtain ⟨g0, g1, g2, g3, _⟩ := S2.fcell hx2
    dsimp only at e0 e1 e2 e3 g0 g1 g2 g3
    have HS2 := Lib.hid S2
    clear h S1 hx1 er ef et hw hf S2 hx2 fz
    generalize x.left = L at *
    go_enter Try.func79, Try.ntmps79
    go_wp2_with fail
    refine HW.out.mono ?_
    rintro e w' ⟨rfl, rfl⟩
    go_wp2_with fail
    go_region
    go_wp2_with fail
    refine bodyPost_ret (results_tmp2 rfl _ _ _) rfl ?_
    exact ⟨rfl, HS2.out.on (below_drawn (Below.refl _ _)), W2.out.drew⟩
end Go.Proofs.Ytchhbcmkhbfpoaa

/- Package frame: what is open, against the plain frames; Byte, End, Open. -/
namespace Go.Proofs.Ytchhbcmkhbfpoaa
open Go.RowKit

/-- A frame's place holds a plain frame. -/
structure FrM (y : Fr) (x : FC) : Prop where
  kind : x.kind = y.kind
  left : x.left = y.left
  half : x.keyed = y.half
  any : x.k.e = y.any
  cur : x.k.b = y.cur
  last : y.any = true → x.k.a = y.last
/-- The frames that are open, outermost first. -/
def FrsM (st : List Fr) (fs : List FC) : Prop := ∀ (i : Nat) (y : Fr), st.reverse[i]? = some y → ∃ x : FC, fs[i]? = some x ∧ FrM y x
theorem FrM.waits {y : Fr} {x : FC} (h : FrM y x) : x.waits = y.waits := by unfold FC.waits Fr.waits; rw [h.kind, h.half]
/-- A stack in memory with room for D frames, in which st is open. -/
def StkR (w : World) (own : Nat → Nat) (s f D K : Nat) (st : List Fr) : Prop := ∃ fs, fs.length = D ∧ Stk w own s f K fs st.length ∧ FrsM st fs
/-- Whatever is open. -/
def StkW (w : World) (own : Nat → Nat) (s f D K : Nat) : Prop := ∃ fs n, fs.length = D ∧ Stk w own s f K fs n
section
variable {w w' : World} {own : Nat → Nat} {s f D K : Nat} {st : List Fr}
theorem StkR.weak (h : StkR w own s f D K st) : StkW w own s f D K := let ⟨fs, h1, h2, _⟩ := h; ⟨fs, _, h1, h2⟩
theorem StkR.wi {S : Nat → Prop} (h : StkR w own s f D K st) (hb : Wi S w w') (hS : ∀ i, S i → own i = 0) : StkR w' own s f D K st := let ⟨fs, h1, h2, h3⟩ := h; ⟨fs, h1, h2.wi hb hS, h3⟩
theorem StkW.wi {S : Nat → Prop} (h : StkW w own s f D K) (hb : Wi S w w') (hS : ∀ i, S i → own i = 0) : StkW w' own s f D K := let ⟨fs, n, h1, h2⟩ := h; ⟨fs, n, h1, h2.wi hb hS⟩
theorem StkR.on (h : StkR w own s f D K st) (hb : Below w.heap.size w w') : StkR w' own s f D K st := let ⟨fs, h1, h2, h3⟩ := h; ⟨fs, h1, h2.on hb, h3⟩
theorem StkW.on (h : StkW w own s f D K) (hb : Below w.heap.size w w') : StkW w' own s f D K := let ⟨fs, n, h1, h2⟩ := h; ⟨fs, n, h1, h2.on hb⟩
theorem rev_top (y : Fr) (st : List Fr) : (y :: st).reverse[st.length]? = some y := by
  rw [List.reverse_cons, List.getElem?_append_right (by simp)]; simp
theorem rev_low {y : Fr} {st : List Fr} {i : Nat} (h : i < st.length) : (y :: st).reverse[i]? = st.reverse[i]? := by
  rw [List.reverse_cons, List.getElem?_append_left (by simpa using h)]
theorem FrsM.tail {y : Fr} {fs : List FC} (h : FrsM (y :: st) fs) : FrsM st fs := fun i z hz => h i z (by
  have := lt_of_get hz
  rw [rev_low (by simpa using this)]; exact hz)
theorem FrsM.top {y : Fr} {fs : List FC} (h : FrsM (y :: st) fs) : ∃ x, fs[st.length]? = some x ∧ FrM y x := h _ _ (rev_top y st)
/-- The innermost frame is another one, or a new one. -/
theorem FrsM.set {fs : List FC} {x x' : FC} {y' : Fr} (h : FrsM st fs) (hx : fs[st.length]? = some x) (hm : FrM y' x') : FrsM (y' :: st) (fs.set st.length x') := fun i z hz => by
  have hi := lt_of_get hz
  simp only [List.length_reverse, List.length_cons] at hi
  by_cases e : i = st.length
  · subst e
    rw [rev_top] at hz
    injection hz with hz
    subst hz
    exact ⟨x', List.getElem?_set_self (lt_of_get hx), hm⟩
  · rw [rev_low (by omega)] at hz
    obtain ⟨x2, h1, h2⟩ := h i z hz
    exact ⟨x2, by rw [List.getElem?_set_ne (Ne.symm e)]; exact h1, h2⟩
end
theorem frm_keyed {y : Fr} {x : FC} (h : FrM y x) (hw : y.waits = true) : FrM y.keyed x.taken := by
  have hx : x.waits = true := h.waits.trans hw
  have e : x.taken = { x with keyed := true, k := ⟨x.k.g, x.k.q, x.k.p, x.k.b, [], true⟩ } := by unfold FC.taken; rw [if_pos hx]
  rw [e]
  exact ⟨h.kind, h.left, rfl, rfl, rfl, fun _ => h.cur⟩
theorem frm_less {y : Fr} {x : FC} (h : FrM y x) (hw : y.waits = false) : FrM y.less x.taken := by
  have hx : x.waits = false := h.waits.trans hw
  have e : x.taken = { x with keyed := false, left := x.left - 1 } := by unfold FC.taken; rw [if_neg (by simp [hx])]
  rw [e]
  exact ⟨h.kind, by show x.left - 1 = y.left - 1; rw [h.left], rfl, h.any, h.cur, h.last⟩
theorem frm_rise {y : Fr} {x : FC} (h : FrM y x) (hw : y.waits = true) : x.rise = (!y.any || ahead y.last y.cur) := by
  have hx : x.waits = true := h.waits.trans hw
  unfold FC.rise
  rw [if_pos hx, h.any, h.cur]
  cases ha : y.any with
  | false => rfl
  | true => rw [h.last ha]
theorem frm_full {y : Fr} {x : FC} (h : FrM y x) : x.fullT = (!y.waits && y.left == 1) := by unfold FC.fullT; rw [h.waits, h.left]
/-- An item ends: does each key that ends rise, is nothing open any more, what is open then. -/
def endS : List Fr → Bool × Bool × List Fr
  | [] => (true, true, [])
  | y :: st => if y.waits then (!y.any || ahead y.last y.cur, false, y.keyed :: st) else if y.left = 1 then endS st else (true, false, y.less :: st)

/-- Frames whose numbers of items to come lie in the type. -/
def LOk (st : List Fr) : Prop := ∀ y ∈ st, 1 ≤ y.left ∧ y.left < 18446744073709551616

set_option maxRecDepth 100000 in
theorem frame_End (w : World) (own : Nat → Nat) (s f D K : Nat) (st : List Fr) (h : StkR w own s f D K st) (hL : LOk st) :
    Calls Try.prog 63 #[.pointer (some ⟨s, 0, none⟩)] w fun e w' => e = .returned (.tuple #[.bool (endS st).1, .bool (endS st).2.1]) ∧ StkR w' own s f D K (endS st).2.2 ∧ Wi (Mine own) w w' := by
  have H := Lib.hid h
  have HL := Lib.hid hL
  obtain ⟨fs0, hD, h0, _⟩ := h
  obtain ⟨c0, c1, _⟩ := h0.cells
  have hl64 : st.length ≤ 64 := Nat.le_trans h0.hn h0.hl
  clear hD h0 hL
  generalize hN : st.length = N at *
  have HN := Lib.hid hN
  clear hN
  go_enter Try.func63, Try.ntmps63
  go_wp2_with fail
  go_loopw [12] (fun i wr => ∃ (k : Nat) (sk : List Fr), k ≤ N ∧ i = .int .i64 k ∧ sk.length + k = N ∧ endS sk = endS st ∧ LOk sk ∧ StkR wr own s f D K sk ∧ Wi (Mine own) w wr) (fun i _ => N - (intOf i).toNat)
  case atStart => exact ⟨0, st, by omega, rfl, by rw [HN.out]; rfl, rfl, HL.out, H.out, Wi.refl⟩
  case round =>
    obtain ⟨k, sk, hk, rfl, hsk, he, hLk, hR, hW⟩ := hrel
    cases sk with
    | nil =>
      simp only [List.length_nil] at hsk
      have hk2 : ¬ (k : Int) < N := by omega
      have HE := Lib.hid he
      have HR := Lib.hid hR
      have HW := Lib.hid hW
      clear he hR hW H
      go_wp2_with fail
      refine bodyPost_ret (results_tmp2 rfl _ _ _) rfl ?_
      rw [← HE.out]
      exact ⟨rfl, HR.out, HW.out⟩
    | cons y sk =>
      simp only [List.length_cons] at hsk
      have hk2 : (k : Int) < N := by omega
      obtain ⟨fs, hD, hS, hM⟩ := hR
      simp only [List.length_cons] at hS
      obtain ⟨x, hx, hm⟩ := hM.top
      have hy := hLk y List.mem_cons_self
      have HI := Lib.hid (frame_inner wr own s f K fs sk.length hS)
      have HT : Hid (∀ w', Below wr.heap.size wr w' → Calls Try.prog 79 #[.pointer (some ⟨f, sk.length * 4, none⟩)] w' fun e w'' => e = .returned (.tuple #[.bool x.rise, .bool x.fullT]) ∧ Stk w'' own s f K (fs.set sk.length x.taken) (sk.length + 1) ∧ Wi (Mine own) wr w'') := fun w' hb => by
        refine (frame_take w' own s f K fs (sk.length + 1) sk.length x (hS.on hb) hx (by rw [hm.left]; exact hy.1) (by rw [hm.left]; exact hy.2)).mono ?_
        rintro e w'' ⟨h1, h2, h3⟩
        exact ⟨h1, h2, (Wi.ofBelow hb).trans h3⟩
      cases hw : y.waits with
      | true =>
        have ee : endS (y :: sk) = (!y.any || ahead y.last y.cur, false, y.keyed :: sk) := by rw [endS, if_pos hw]
        rw [frm_rise hm hw, show x.fullT = false by rw [frm_full hm, hw]; rfl] at HT
        have HF : Hid (∀ w', Stk w' own s f K (fs.set sk.length x.taken) (sk.length + 1) → StkR w' own s f D K (y.keyed :: sk)) := fun w' h => ⟨_, by rw [List.length_set]; exact hD, h, hM.tail.set hx (frm_keyed hm hw)⟩
        have HE := Lib.hid (he.symm.trans ee)
        have HW := Lib.hid hW
        clear he ee hS hM hx hm hy hLk hW H hw hsk
        generalize (!y.any || ahead y.last y.cur) = r at *
        generalize sk.length * 4 = u at *
        go_wp2_with fail
        refine HI.out.mono ?_
        rintro e w1 ⟨rfl, b1⟩
        have HT1 := Lib.hid (HT.out w1 b1)
        clear HT
        go_wp2_with fail
        refine HT1.out.mono ?_
        rintro e w2 ⟨rfl, s2, wi2⟩
        have HS2 := Lib.hid s2
        have HW2 := Lib.hid wi2
        clear s2 wi2
        go_wp2_with fail
        refine bodyPost_ret (results_tmp2 rfl _ _ _) rfl ?_
        rw [HE.out]
        exact ⟨rfl, HF.out _ HS2.out, HW.out.trans HW2.out⟩
      | false =>
        by_cases hl1 : y.left = 1
        · have ee : endS (y :: sk) = endS sk := by rw [endS, if_neg (by simp [hw]), if_pos hl1]
          rw [show x.fullT = true by rw [frm_full hm, hw, hl1]; rfl] at HT
          generalize x.rise = r at *
          have HF : Hid (∀ w', Stk w' own s f K (fs.set sk.length x.taken) (sk.length + 1) → (w'.cell? ⟨s, 1, none⟩ = some (.int .i64 (((sk.length : Nat) : Int) + 1)) ∧ w'.frozen? ⟨s, 1, none⟩ = false) ∧ StkR (w'.setCell ⟨s, 1, none⟩ (.int .i64 sk.length)) own s f D K sk ∧ Wi (Mine own) w' (w'.setCell ⟨s, 1, none⟩ (.int .i64 sk.length))) := fun w' h => by
            have hlen : (fs.set sk.length x.taken).length = D := by rw [List.length_set]; exact hD
            have hlt := lt_of_get hx
            obtain ⟨_, a2, a3⟩ := h.cells
            refine ⟨⟨by rw [a2]; rfl, a3 1⟩, ⟨_, hlen, h.setN rfl (by rw [hlen]; omega), fun i z hz => ?_⟩, .ofOnly ((Only.refl s w').put 1 _) (Mine.of h.os)⟩
            have hi := lt_of_get hz
            simp only [List.length_reverse] at hi
            obtain ⟨x2, q1, q2⟩ := hM.tail i z hz
            exact ⟨x2, by rw [List.getElem?_set_ne (by omega)]; exact q1, q2⟩
          have HE := Lib.hid (ee.symm.trans he)
          have HW := Lib.hid hW
          have HLk : Hid (LOk sk) := fun z hz => hLk z (List.mem_cons_of_mem _ hz)
          have HSK := Lib.hid hsk
          have hm64 : sk.length < 64 := by omega
          clear he ee hS hM hx hm hy hLk hW H hw hl1 hsk
          generalize sk.length * 4 = u at *
          generalize hM : sk.length = M at *
          have HMM := Lib.hid hM
          clear hM
          go_wp2_with fail
          refine HI.out.mono ?_
          rintro e w1 ⟨rfl, b1⟩
          have HT1 := Lib.hid (HT.out w1 b1)
          clear HT
          go_wp2_with fail
          refine HT1.out.mono ?_
          rintro e w2 ⟨rfl, s2, wi2⟩
          obtain ⟨⟨q1, q2⟩, q3, q4⟩ := HF.out w2 s2
          have HS2 := Lib.hid q3
          have HW2 := Lib.hid (HW.out.trans (wi2.trans q4))
          clear s2 wi2 q3 q4 HF c1
          go_wp2_with fail
          go_roundw
          case rel => exact ⟨k + 1, sk, by omega, by go_num, by have := HSK.out; have := HMM.out; omega, HE.out, HLk.out, HS2.out, HW2.out⟩
          case measure => simp [intOf]; omega
        · have ee : endS (y :: sk) = (true, false, y.less :: sk) := by rw [endS, if_neg (by simp [hw]), if_neg hl1]
          rw [show x.rise = true by unfold FC.rise; rw [if_neg (by rw [hm.waits, hw]; decide)], show x.fullT = false by rw [frm_full hm, hw]; simpa using hl1] at HT
          have HF : Hid (∀ w', Stk w' own s f K (fs.set sk.length x.taken) (sk.length + 1) → StkR w' own s f D K (y.less :: sk)) := fun w' h => ⟨_, by rw [List.length_set]; exact hD, h, hM.tail.set hx (frm_less hm hw)⟩
          have HE := Lib.hid (he.symm.trans ee)
          have HW := Lib.hid hW
          clear he ee hS hM hx hm hy hLk hW H hw hsk hl1
          generalize sk.length * 4 = u at *
          go_wp2_with fail
          refine HI.out.mono ?_
          rintro e w1 ⟨rfl, b1⟩
          have HT1 := Lib.hid (HT.out w1 b1)
          clear HT
          go_wp2_with fail
          refine HT1.out.mono ?_
          rintro e w2 ⟨rfl, s2, wi2⟩
          have HS2 := Lib.hid s2
          have HW2 := Lib.hid wi2
          clear s2 wi2
          go_wp2_with fail
          refine bodyPost_ret (results_tmp2 rfl _ _ _) rfl ?_
          rw [HE.out]
          exact ⟨rfl, HF.out _ HS2.out, HW.out.trans HW2.out⟩
end Go.Proofs.Ytchhbcmkhbfpoaa
