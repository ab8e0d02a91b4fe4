/- The document's wrong, Check. -/
import Derived.Test.YtgbbgdjdomkohaaKBH
import Derived.Test.YtgbbgdjdomkohaaKBI
import Derived.Test.YtgbbgdjdomkohaaKBJ
import Derived.Test.YtgbbgdjdomkohaaKAB
import Derived.Lib.QuietBelow
namespace Go.Proofs.Ytgbbgdjdomkohaa
open Go.RowKit

theorem sref_wrong (xs : List Nd) (A : Option Addr) (cap n i : Nat) (x : Nd) (w : World) (hn : n ≤ w.heap.size) (hx : RdN w n A xs) (hX : xs[i]? = some x) (ho : okN x) (hm : xs.length ≤ 1099511627776) :
    Calls Try.prog 19 #[vS A xs cap, .int .i64 (i : Int)] w fun e w' => e = .returned (.int .i64 (wrongN chI x i xs.length)) ∧ Below w.heap.size w w' := by
  by_cases h1 : x.k = 1
  · exact sref_wrong1 xs A cap n i x w hn hx hX ho h1 hm
  by_cases h2 : x.k = 2
  · exact sref_wrong2 xs A cap n i x w hn hx hX ho h2 hm
  by_cases h3 : x.k = 3
  · exact sref_wrong3 xs A cap n i x w hn hx hX ho h3 hm
  by_cases h6 : x.k = 6
  · exact sref_wrong6 xs A cap n i x w hn hx hX ho h6 hm
  by_cases h9 : x.k = 9
  · exact sref_wrong9 xs A cap n i x w hn hx hX ho h9 hm
  exact sref_wrong_o xs A cap n i x w hn hx hX ho ⟨h1, h2, h3, h6, h9⟩ hm

set_option maxRecDepth 100000 in
set_option maxHeartbeats 4000000 in
theorem sref_Check (xs : List Nd) (A : Option Addr) (cap n : Nat) (w : World) (hn : n ≤ w.heap.size) (hx : RdN w n A xs) (ho : ∀ x ∈ xs, okN x) (hm : xs.length ≤ 1099511627776) :
    Calls Try.prog 8 #[vS A xs cap] w fun e w' => e = .returned (.tuple #[.int .i64 (checkI chI xs : Nat), .int .i64 (checkE chI xs)]) ∧ Below w.heap.size w w' := by
  obtain ⟨w1, hw1, b1, S⟩ := iblk1 w 24 #[.slice A xs.length cap]
  have HF : Hid (∀ W, Below w.heap.size w W → RdN W n A xs) := Lib.hid fun W hW => hx.keep (hW.mono hn)
  have HOK := Lib.hid ho
  have HN := Lib.hid hn
  have HB := Lib.hid b1
  have HS := Lib.hid S
  have p0 := sblk b1
  have HUP : Hid (∀ W, Below w1.heap.size w1 W → Below w.heap.size w W) := Lib.hid fun W hW => S.trans (hW.mono S.size)
  have HCW : Hid (∀ W, Below w1.heap.size w1 W → ∀ (i : Nat) (x : Nd), xs[i]? = some x → Calls Try.prog 19 #[vS A xs cap, .int .i64 (i : Int)] W fun e w' => e = .returned (.int .i64 (wrongN chI x i xs.length)) ∧ Below w1.heap.size w1 w') := Lib.hid fun W hW i x hX =>
    (sref_wrong xs A cap n i x W (Nat.le_trans hn (S.trans (hW.mono S.size)).size) (hx.keep ((S.trans (hW.mono S.size)).mono hn)) hX (ho x (List.mem_of_getElem? hX)) hm).mono fun e w' h => ⟨h.1, hW.trans (h.2.mono hW.size)⟩
  obtain ⟨m, hml⟩ : ∃ m, xs.length = m := ⟨_, rfl⟩
  have HM := Lib.hid hml
  unfold vS at HCW
  rw [hml] at p0 hw1 hm HB HCW
  unfold vS
  rw [hml]
  clear b1 S hx hn ho hml
  obtain ⟨ri, hri⟩ : ∃ ri : Int, ((checkI chI xs : Nat) : Int) = ri := ⟨_, rfl⟩
  obtain ⟨re, hre⟩ : ∃ re, checkE chI xs = re := ⟨_, rfl⟩
  rw [hri, hre]
  have HSET : Hid (∀ a b, checkE chI xs = a ∧ checkI chI xs = b → re = a ∧ ri = (b : Int)) := Lib.hid fun a b h => ⟨hre.symm.trans h.1, hri.symm.trans (by rw [h.2])⟩
  clear hri hre
  go_enter Try.func8, Try.ntmps8
  by_cases hb : m < 1 ∨ 256 < m
  · obtain ⟨rfl, rfl⟩ := HSET.out _ _ (checkE_bad (ch := chI) (by rw [HM.out]; exact hb))
    rcases hb with hb | hb
    · have e1 : (m : Int) < 1 := by omega
      clear hb
      go_wp2_with fail
      go_ret2
      exact ⟨rfl, HS.out⟩
    · have e1 : ¬ (m : Int) < 1 := by omega
      have e2 : (256 : Int) < m := by omega
      clear hb
      go_wp2_with fail
      go_ret2
      exact ⟨rfl, HS.out⟩
  have e1 : ¬ (m : Int) < 1 := by omega
  have e2 : ¬ (256 : Int) < m := by omega
  have HBAD : Hid (¬ (xs.length < 1 ∨ 256 < xs.length)) := Lib.hid (by rw [HM.out]; exact hb)
  clear hb
  go_wp2_with fail
  clear e1 e2
  go_loopw [4] (fun i wr => ∃ k : Nat, k ≤ m ∧ i = .int .i64 (k : Int) ∧ Hid (Below w1.heap.size w1 wr) ∧ Hid (∀ j, j < k → errN chI xs j = 0)) (fun i _ => m - (intOf i).toNat)
  case atStart => exact ⟨0, by omega, rfl, Lib.hid (Below.refl _ _), Lib.hid fun j hj => absurd hj (by omega)⟩
  case round =>
    obtain ⟨k, hk, rfl, HBr, HE⟩ := hrel
    have s0 := sblk (HB.out.on HBr.out)
    by_cases hlt : k < m
    · obtain ⟨x, hX⟩ : ∃ x, xs[k]? = some x := ⟨_, List.getElem?_eq_getElem (by rw [HM.out]; exact hlt)⟩
      have HX := Lib.hid hX
      have HCH := Lib.hid (HCW.out wr HBr.out k x hX)
      clear hX
      obtain ⟨r, hr⟩ : ∃ r, wrongN chI x k m = r := ⟨_, rfl⟩
      rw [hr] at HCH
      have HR := Lib.hid hr
      clear hr
      by_cases h0 : r = 0
      · subst h0
        have HNX : Hid (errN chI xs k = 0) := Lib.hid (by rw [errN_some HX.out, HM.out]; exact HR.out)
        go_wp2_with (first
          | (go_at_call 19; refine HCH.out.mono ?_; rintro e w4 ⟨rfl, hb4⟩; have HB4 := Lib.hid hb4; clear hb4)
          | fail)
        go_roundw
        case rel => exact ⟨k + 1, by omega, by simp, HB4, Lib.hid fun j hj => by
          by_cases e : j = k
          · rw [e]; exact HNX.out
          · exact HE.out j (by omega)⟩
        case measure => simp [intOf]; omega
      · obtain ⟨rfl, rfl⟩ := HSET.out _ _ (by have := checkE_at (ch := chI) HBAD.out HE.out HX.out (by rw [HM.out, HR.out]; exact h0); rw [HM.out, HR.out] at this; exact this)
        have e3 : (re != 0) = true := by simp [h0]
        clear h0
        go_wp2_with (first
          | (go_at_call 19; refine HCH.out.mono ?_; rintro e w4 ⟨rfl, hb4⟩; have HB4 := Lib.hid hb4; clear hb4)
          | fail)
        go_ret2
        exact ⟨rfl, HUP.out _ HB4.out⟩
    · obtain rfl : k = m := by omega
      obtain ⟨rfl, rfl⟩ := HSET.out _ _ (checkE_all (ch := chI) HBAD.out (by rw [HM.out]; exact HE.out))
      go_wp2_with fail
      go_ret2
      exact ⟨rfl, HUP.out _ HBr.out⟩
end Go.Proofs.Ytgbbgdjdomkohaa

/- Who leads to whom: the document's Leads; lists of numbers held against each other. -/
namespace Go.Proofs.Ytgbbgdjdomkohaa
open Go.RowKit Go.Sort

set_option maxRecDepth 100000 in
set_option maxHeartbeats 1000000 in
theorem ref_Ints (xs ys : List Int) (A B : Option Addr) (ca cb n : Nat) (w : World) (hn : n ≤ w.heap.size) (hx : Rd w n .i64 A xs) (hy : Rd w n .i64 B ys) (hm : xs.length ≤ 1099511627776) :
    Calls Try.prog 12 #[.slice A xs.length ca, .slice B ys.length cb] w fun e w' => e = .returned (.bool (sameL xs ys)) ∧ Below w.heap.size w w' := by
  by_cases hl : xs.length = ys.length
  · have HL := Lib.hid hl
    obtain ⟨m, hmm⟩ : ∃ m, xs.length = m := ⟨_, rfl⟩
    rw [← hl, hmm]
    rw [hmm] at hm
    have HM := Lib.hid hmm
    have HX : Hid (∀ w', Below w.heap.size w w' → Rd w' n .i64 A xs) := Lib.hid fun w' hb => hx.below (hb.mono hn)
    have HY : Hid (∀ w', Below w.heap.size w w' → Rd w' n .i64 B ys) := Lib.hid fun w' hb => hy.below (hb.mono hn)
    clear hl hmm hx hy
    go_enter Try.func12, Try.ntmps12
    go_wp2_with fail
    go_loopw [5] (fun i wr => ∃ k : Nat, k ≤ m ∧ i = .int .i64 (k : Int) ∧ Hid (Below w.heap.size w wr) ∧ Hid (∀ j, j < k → xs[j]? = ys[j]?)) (fun i _ => m - (intOf i).toNat)
    case atStart => exact ⟨0, by omega, rfl, Lib.hid (Below.refl _ _), Lib.hid fun j hj => absurd hj (by omega)⟩
    case round =>
      obtain ⟨k, hk, rfl, HB, HE⟩ := hrel
      by_cases hlt : k < m
      · obtain ⟨b1, o1, x, rfl, -, X, c1⟩ := (HX.out wr HB.out).get' (i := k) (by rw [HM.out]; exact hlt)
        obtain ⟨b2, o2, y, rfl, -, Y, c2⟩ := (HY.out wr HB.out).get' (i := k) (by rw [← HL.out, HM.out]; exact hlt)
        have HXK := Lib.hid X
        have HYK := Lib.hid Y
        clear X Y
        skip
        by_cases e : x = y
        · have HEE := Lib.hid e
          subst e
          go_wp2_with fail
          go_quiet (fail)
          have HQ := Lib.hid (below_drewN (Below.refl wr.heap.size wr) nq)
          generalize wr.drewN nq = w2 at *
          go_wp2_with fail
          go_roundw
          case rel => exact ⟨k + 1, by omega, by simp, Lib.hid (HB.out.trans (HQ.out.mono HB.out.size)), Lib.hid fun j hj => by
            by_cases e : j = k
            · subst e; rw [HXK.out, HYK.out]
            · exact HE.out j (by omega)⟩
          case measure => simp [intOf]; omega
        · have HF : Hid (sameL xs ys = false) := Lib.hid (sameL_false.2 (list_ne_at (k := k) (by rw [HXK.out, HYK.out]; exact fun h => e (by injection h))))
          have e1 : (x != y) = true := by simp [e]
          go_wp2_with fail
          go_quiet (fail)
          have HQ := Lib.hid (below_drewN (Below.refl wr.heap.size wr) nq)
          generalize wr.drewN nq = w2 at *
          go_wp2_with fail
          go_ret
          exact ⟨by rw [HF.out]; rfl, HB.out.trans (HQ.out.mono HB.out.size)⟩
      · obtain rfl : k = m := by omega
        have HF : Hid (sameL xs ys = true) := Lib.hid (sameL_true.2 (list_eq_upto HL.out (by rw [HM.out]; exact HE.out)))
        go_wp2_with fail
        go_ret
        exact ⟨by rw [HF.out]; rfl, HB.out⟩
  · have HF : Hid (sameL xs ys = false) := Lib.hid (sameL_false.2 fun e => hl (by rw [e]))
    have hne : ((xs.length : Int) != ys.length) = true := by simp; omega
    go_enter Try.func12, Try.ntmps12
    go_wp2_with fail
    go_ret
    exact ⟨by rw [HF.out]; rfl, Below.refl _ _⟩


set_option maxRecDepth 100000 in
set_option maxHeartbeats 4000000 in
theorem sref_Leads (xs : List Nd) (A : Option Addr) (cap n b : Nat) (hw : Wf xs) (ho : ∀ x ∈ xs, okN x) (hm : xs.length ≤ 1099511627776) : ∀ (d a : Nat) (w : World), xs.length - a ≤ d → a < xs.length → n ≤ w.heap.size → RdN w n A xs →
    Calls Try.prog 15 #[vS A xs cap, .int .i64 (a : Int), .int .i64 (b : Int)] w fun e w' => e = .returned (.bool (ldB xs a b)) ∧ Below w.heap.size w w' := by
  intro d
  induction d with
  | zero => intro a w h1 h2; omega
  | succ d ih =>
    intro a w hd ha hn hx
    obtain ⟨w1, hw1, b1, S⟩ := iblk1 w 24 #[.slice A xs.length cap]
    have HUP : Hid (∀ W, Below w1.heap.size w1 W → Below w.heap.size w W) := Lib.hid fun W hW => S.trans (hW.mono S.size)
    have HREC : Hid (∀ W, Below w1.heap.size w1 W → ∀ t : Nat, a < t → t < xs.length → Calls Try.prog 15 #[vS A xs cap, .int .i64 (t : Int), .int .i64 (b : Int)] W fun e w' => e = .returned (.bool (ldB xs t b)) ∧ Below W.heap.size W w') := Lib.hid fun W hW t h1 h2 =>
      ih t W (by omega) h2 (Nat.le_trans hn (HUP.out W hW).size) (hx.keep ((HUP.out W hW).mono hn))
    clear ih
    have HF : Hid (∀ W, Below w.heap.size w W → RdN W n A xs) := Lib.hid fun W hW => hx.keep (hW.mono hn)
    have HN := Lib.hid hn
    have HB := Lib.hid b1
    have HS := Lib.hid S
    have p0 := sblk b1
    have HWF := Lib.hid hw
    obtain ⟨bb, oo, x, p, rfl, hbn, hbw, X, mX, hnd, c0, c1, c2, c3, c4, c5, c6, c7, c8⟩ := (HF.out w1 S).get (i := a) ha
    have hox := ho x mX
    have HNM := Lib.hid (ref_Named x p n w1 (Nat.le_trans hn S.size) hnd hox.lf)
    have HLL : Hid ((namedN x).length ≤ 1099511627776) := Lib.hid (by rw [length_namedN]; exact hox.lf)
    have HX := Lib.hid X
    have HFIRST : Hid (Ld xs a b ↔ a = b ∨ ∃ t ∈ namedN x, t ≤ (b : Int) ∧ Ld xs t.toNat b) := Lib.hid (Ld.first hw X)
    have HNAMES : Hid (∀ t ∈ namedN x, (a : Int) < t ∧ t < xs.length) := Lib.hid (hw a x X)
    obtain ⟨m, hml⟩ : ∃ m, xs.length = m := ⟨_, rfl⟩
    have HML := Lib.hid hml
    unfold vS at HREC
    rw [hml] at p0 hw1 hm HB HREC HNAMES ha
    unfold vS
    rw [hml]
    have hab : (a : Int) < m := by omega
    have hmb : (m : Int) ≤ 1099511627776 := by omega
    clear b1 S hx hn hml X mX hnd hox hd hw ho hbn hbw HWF
    simp only [vN] at HNM
    generalize namedN x = L at *
    generalize hres : ldB xs a b = res at *
    have HRES := Lib.hid hres
    clear hres
    go_enter Try.func15, Try.ntmps15
    by_cases e : a = b
    · subst e
      have HR : Hid (res = true) := Lib.hid (by rw [← HRES.out]; exact ldB_true.2 (.refl _))
      go_wp2_with fail
      go_ret
      exact ⟨by rw [HR.out]; rfl, HS.out⟩
    have e1 : ((a : Int) == (b : Int)) = false := by simp; omega
    have HE := Lib.hid e
    clear e
    go_wp2_with (first
      | (go_at_call 14; refine HNM.out.mono ?_; rintro e w5 ⟨⟨v, rfl, hO⟩, hb5⟩; obtain ⟨A', cap', rfl, -, -, -, -, hrd⟩ := hO.form; have HRD := Lib.hid hrd; have HB5 := Lib.hid hb5; clear hb5 hO hrd)
      | fail)
    clear p0 c0 c1 c2 c3 c4 c5 c6 c7 c8 hw1 e1
    obtain ⟨z, hz⟩ : ∃ z, L.length = z := ⟨_, rfl⟩
    have HZ := Lib.hid hz
    have hzb : (z : Int) ≤ 1099511627776 := by have := HLL.out; omega
    rw [hz]
    clear hz
    go_loopw [8] (fun v wr => ∃ j : Nat, j ≤ z ∧ v = .int .i64 (j : Int) ∧ Hid (Below w5.heap.size w5 wr) ∧ Hid (∀ i, i < j → ¬ (L.getD i 0 ≤ (b : Int) ∧ Ld xs (L.getD i 0).toNat b))) (fun v _ => z - (intOf v).toNat)
    case atStart => exact ⟨0, by omega, rfl, Lib.hid (Below.refl _ _), Lib.hid fun t ht => absurd ht (by omega)⟩
    case round =>
      obtain ⟨j, hj, rfl, HBj, HEj⟩ := hrel
      have hb51 := HB5.out.trans (HBj.out.mono HB5.out.size)
      have HB51 := Lib.hid hb51
      have a0 := sblk (HB.out.on hb51)
      clear hb51
      by_cases hjk : j < z
      · obtain ⟨b2, o2, t, e2, -, Y, d0⟩ := (HRD.out.on HBj.out).get' (i := j) (by rw [HZ.out]; exact hjk)
        subst e2
        obtain ⟨ht1, ht2⟩ := HNAMES.out t (List.mem_of_getElem? Y)
        obtain ⟨tn, rfl⟩ : ∃ tn : Nat, t = (tn : Int) := ⟨t.toNat, by omega⟩
        have HT : Hid (L.getD j 0 = (tn : Int)) := Lib.hid (by rw [List.getD_eq_getElem?_getD, Y]; rfl)
        have HMT := Lib.hid (List.mem_of_getElem? Y)
        have K1 := Lib.hid (fun dq os => Calls.regrown_of (HREC.out (grow (redrawn wr dq) os) (HB51.out.trans ((below_regrown wr dq os).mono HB51.out.size)) tn (by omega) (by omega)))
        have k0 := cell_regrown a0
        have k1 := cell_regrown d0
        clear Y
        by_cases h1 : (tn : Int) ≤ (b : Int)
        · obtain ⟨r, hr⟩ : ∃ r, ldB xs tn b = r := ⟨_, rfl⟩
          rw [hr] at K1
          have HR := Lib.hid hr
          clear hr
          cases r with
          | true =>
            have HF' : Hid (res = true) := Lib.hid (by rw [← HRES.out]; exact ldB_true.2 (HFIRST.out.2 (.inr ⟨tn, HMT.out, h1, by simpa using ldB_true.1 HR.out⟩)))
            go_wp2_with fail
            clear a0 d0
            refine wp_region_quiet_below (by kernel_rfl) (by kernel_rfl) ?_
            repeat (quiet_step (exact K1.out _ _))
            refine wpQuiet_nil ?_
            intro _ hw'
            obtain ⟨⟨dq, osq⟩, hw''⟩ := hw'
            subst hw''
            have HQ := Lib.hid (below_regrown wr dq osq)
            generalize grow (redrawn wr dq) osq = w6 at *
            go_wp2_with fail
            go_ret
            exact ⟨by rw [HF'.out]; rfl, HUP.out _ (HB51.out.trans (HQ.out.mono HB51.out.size))⟩
          | false =>
            have HN' : Hid (¬ (L.getD j 0 ≤ (b : Int) ∧ Ld xs (L.getD j 0).toNat b)) := Lib.hid (by rw [HT.out]; rintro ⟨_, h⟩; exact ldB_false.1 HR.out (by simpa using h))
            go_wp2_with fail
            clear a0 d0
            refine wp_region_quiet_below (by kernel_rfl) (by kernel_rfl) ?_
            repeat (quiet_step (exact K1.out _ _))
            refine wpQuiet_nil ?_
            intro _ hw'
            obtain ⟨⟨dq, osq⟩, hw''⟩ := hw'
            subst hw''
            have HQ := Lib.hid (below_regrown wr dq osq)
            generalize grow (redrawn wr dq) osq = w6 at *
            go_wp2_with fail
            go_roundw
            case rel => exact ⟨j + 1, by omega, by simp, Lib.hid (HBj.out.trans (HQ.out.mono HBj.out.size)), Lib.hid fun t ht => by
              by_cases e : t = j
              · rw [e]; exact HN'.out
              · exact HEj.out t (by omega)⟩
            case measure => simp [intOf]; omega
        · have HN' : Hid (¬ (L.getD j 0 ≤ (b : Int) ∧ Ld xs (L.getD j 0).toNat b)) := Lib.hid (by rw [HT.out]; rintro ⟨h, _⟩; exact h1 h)
          have h1' : ¬ tn ≤ b := by omega
          have h1d : decide (tn ≤ b) = false := decide_eq_false h1'
          clear K1 h1
          go_wp2_with fail
          clear a0 d0
          refine wp_region_quiet_below (by kernel_rfl) (by kernel_rfl) ?_
          repeat (quiet_step (fail))
          refine wpQuiet_nil ?_
          intro _ hw'
          obtain ⟨⟨dq, osq⟩, hw''⟩ := hw'
          subst hw''
          have HQ := Lib.hid (below_regrown wr dq osq)
          generalize grow (redrawn wr dq) osq = w6 at *
          go_wp2_with fail
          go_roundw
          case rel => exact ⟨j + 1, by omega, by simp, Lib.hid (HBj.out.trans (HQ.out.mono HBj.out.size)), Lib.hid fun t ht => by
            by_cases e : t = j
            · rw [e]; exact HN'.out
            · exact HEj.out t (by omega)⟩
          case measure => simp [intOf]; omega
      · obtain rfl : j = z := by omega
        have HF' : Hid (res = false) := Lib.hid (by
          rw [← HRES.out]
          refine ldB_false.2 fun h => ?_
          rcases HFIRST.out.1 h with e | ⟨t, ht, h1, h2⟩
          · exact HE.out e
          · obtain ⟨i, hi⟩ := List.mem_iff_getElem?.1 ht
            refine HEj.out i (by rw [← HZ.out]; exact (List.getElem?_eq_some_iff.1 hi).1) ?_
            rw [List.getD_eq_getElem?_getD, hi]
            exact ⟨h1, h2⟩)
        go_wp2_with fail
        go_ret
        exact ⟨by rw [HF'.out]; rfl, HUP.out _ HB51.out⟩
end Go.Proofs.Ytgbbgdjdomkohaa
