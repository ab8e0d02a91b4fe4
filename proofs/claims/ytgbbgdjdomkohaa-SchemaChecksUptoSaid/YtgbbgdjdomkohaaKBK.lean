/- The document's wrong, Check. -/
import Derived.Test.YtgbbgdjdomkohaaKBH
import Derived.Test.YtgbbgdjdomkohaaKBI
import Derived.Test.YtgbbgdjdomkohaaKBJ
import Derived.Test.YtgbbgdjdomkohaaKBG
import Derived.Test.YtgbbgdjdomkohaaKAJ
namespace Go.Proofs.Ytgbbgdjdomkohaa
open Go.RowKit

theorem sref_wrong (xs : List Nd) (A : Option Addr) (cap n i : Nat) (x : Nd) (w : World) (hn : n ≤ w.heap.size) (hx : RdN w n A xs) (hX : xs[i]? = some x) (ho : okN x) (hm : xs.length ≤ 1099511627776) :
    Calls Try.prog 19 #[vS A xs cap, .int .i64 (i : Int)] w fun e w' => e = .returned (.int .i64 (wrongN chI x i xs.length)) ∧ Below w.heap.size w w' := by
  by_cases h1 : x.k = 1
  · exact sref_wrong1 xs A cap n i x w hn hx hX ho h1 hm
  by_cases h2 : x.k = 2
  · exact sref_wrong2 xs A cap n i x w hn hx hX ho h2 hm
  by_cases h3 : x.k = 3
  · exact sref_wrong3 xs A cap n i x w hn hx hX ho h3 hm
  by_cases h6 : x.k = 6
  · exact sref_wrong6 xs A cap n i x w hn hx hX ho h6 hm
  by_cases h9 : x.k = 9
  · exact sref_wrong9 xs A cap n i x w hn hx hX ho h9 hm
  exact sref_wrong_o xs A cap n i x w hn hx hX ho ⟨h1, h2, h3, h6, h9⟩ hm

set_option maxRecDepth 100000 in
set_option maxHeartbeats 4000000 in
theorem sref_Check (xs : List Nd) (A : Option Addr) (cap n : Nat) (w : World) (hn : n ≤ w.heap.size) (hx : RdN w n A xs) (ho : ∀ x ∈ xs, okN x) (hm : xs.length ≤ 1099511627776) :
    Calls Try.prog 8 #[vS A xs cap] w fun e w' => e = .returned (.tuple #[.int .i64 (checkI chI xs : Nat), .int .i64 (checkE chI xs)]) ∧ Below w.heap.size w w' := by
  obtain ⟨w1, hw1, b1, S⟩ := iblk1 w 24 #[.slice A xs.length cap]
  have HF : Hid (∀ W, Below w.heap.size w W → RdN W n A xs) := Lib.hid fun W hW => hx.keep (hW.mono hn)
  have HOK := Lib.hid ho
  have HN := Lib.hid hn
  have HB := Lib.hid b1
  have HS := Lib.hid S
  have p0 := sblk b1
  have HUP : Hid (∀ W, Below w1.heap.size w1 W → Below w.heap.size w W) := Lib.hid fun W hW => S.trans (hW.mono S.size)
  have HCW : Hid (∀ W, Below w1.heap.size w1 W → ∀ (i : Nat) (x : Nd), xs[i]? = some x → Calls Try.prog 19 #[vS A xs cap, .int .i64 (i : Int)] W fun e w' => e = .returned (.int .i64 (wrongN chI x i xs.length)) ∧ Below w1.heap.size w1 w') := Lib.hid fun W hW i x hX =>
    (sref_wrong xs A cap n i x W (Nat.le_trans hn (S.trans (hW.mono S.size)).size) (hx.keep ((S.trans (hW.mono S.size)).mono hn)) hX (ho x (List.mem_of_getElem? hX)) hm).mono fun e w' h => ⟨h.1, hW.trans (h.2.mono hW.size)⟩
  obtain ⟨m, hml⟩ : ∃ m, xs.length = m := ⟨_, rfl⟩
  have HM := Lib.hid hml
  unfold vS at HCW
  rw [hml] at p0 hw1 hm HB HCW
  unfold vS
  rw [hml]
  clear b1 S hx hn ho hml
  obtain ⟨ri, hri⟩ : ∃ ri : Int, ((checkI chI xs : Nat) : Int) = ri := ⟨_, rfl⟩
  obtain ⟨re, hre⟩ : ∃ re, checkE chI xs = re := ⟨_, rfl⟩
  rw [hri, hre]
  have HSET : Hid (∀ a b, checkE chI xs = a ∧ checkI chI xs = b → re = a ∧ ri = (b : Int)) := Lib.hid fun a b h => ⟨hre.symm.trans h.1, hri.symm.trans (by rw [h.2])⟩
  clear hri hre
  go_enter Try.func8, Try.ntmps8
  by_cases hb : m < 1 ∨ 256 < m
  · obtain ⟨rfl, rfl⟩ := HSET.out _ _ (checkE_bad (ch := chI) (by rw [HM.out]; exact hb))
    rcases hb with hb | hb
    · have e1 : (m : Int) < 1 := by omega
      clear hb
      go_wp2_with fail
      go_ret2
      exact ⟨rfl, HS.out⟩
    · have e1 : ¬ (m : Int) < 1 := by omega
      have e2 : (256 : Int) < m := by omega
      clear hb
      go_wp2_with fail
      go_ret2
      exact ⟨rfl, HS.out⟩
  have e1 : ¬ (m : Int) < 1 := by omega
  have e2 : ¬ (256 : Int) < m := by omega
  have HBAD : Hid (¬ (xs.length < 1 ∨ 256 < xs.length)) := Lib.hid (by rw [HM.out]; exact hb)
  clear hb
  go_wp2_with fail
  clear e1 e2
  go_loopw [4] (fun i wr => ∃ k : Nat, k ≤ m ∧ i = .int .i64 (k : Int) ∧ Hid (Below w1.heap.size w1 wr) ∧ Hid (∀ j, j < k → errN chI xs j = 0)) (fun i _ => m - (intOf i).toNat)
  case atStart => exact ⟨0, by omega, rfl, Lib.hid (Below.refl _ _), Lib.hid fun j hj => absurd hj (by omega)⟩
  case round =>
    obtain ⟨k, hk, rfl, HBr, HE⟩ := hrel
    have s0 := sblk (HB.out.on HBr.out)
    by_cases hlt : k < m
    · obtain ⟨x, hX⟩ : ∃ x, xs[k]? = some x := ⟨_, List.getElem?_eq_getElem (by rw [HM.out]; exact hlt)⟩
      have HX := Lib.hid hX
      have HCH := Lib.hid (HCW.out wr HBr.out k x hX)
      clear hX
      obtain ⟨r, hr⟩ : ∃ r, wrongN chI x k m = r := ⟨_, rfl⟩
      rw [hr] at HCH
      have HR := Lib.hid hr
      clear hr
      by_cases h0 : r = 0
      · subst h0
        have HNX : Hid (errN chI xs k = 0) := Lib.hid (by rw [errN_some HX.out, HM.out]; exact HR.out)
        go_wp2_with (first
          | (go_at_call 19; refine HCH.out.mono ?_; rintro e w4 ⟨rfl, hb4⟩; have HB4 := Lib.hid hb4; clear hb4)
          | fail)
        go_roundw
        case rel => exact ⟨k + 1, by omega, by simp, HB4, Lib.hid fun j hj => by
          by_cases e : j = k
          · rw [e]; exact HNX.out
          · exact HE.out j (by omega)⟩
        case measure => simp [intOf]; omega
      · obtain ⟨rfl, rfl⟩ := HSET.out _ _ (by have := checkE_at (ch := chI) HBAD.out HE.out HX.out (by rw [HM.out, HR.out]; exact h0); rw [HM.out, HR.out] at this; exact this)
        have e3 : (re != 0) = true := by simp [h0]
        clear h0
        go_wp2_with (first
          | (go_at_call 19; refine HCH.out.mono ?_; rintro e w4 ⟨rfl, hb4⟩; have HB4 := Lib.hid hb4; clear hb4)
          | fail)
        go_ret2
        exact ⟨rfl, HUP.out _ HB4.out⟩
    · obtain rfl : k = m := by omega
      obtain ⟨rfl, rfl⟩ := HSET.out _ _ (checkE_all (ch := chI) HBAD.out (by rw [HM.out]; exact HE.out))
      go_wp2_with fail
      go_ret2
      exact ⟨rfl, HUP.out _ HBr.out⟩
end Go.Proofs.Ytgbbgdjdomkohaa

/- The document's Great, of schemas. -/
namespace Go.Proofs.Ytgbbgdjdomkohaa
open Go.RowKit

noncomputable def greatN (x : Nd) : Bool := decide (20 < x.l.length) || decide (20 < x.f.length) || greatB x.v || x.f.any (fun y => decide (300 < y.key.size))
noncomputable def greatS (xs : List Nd) : Bool := (xs.take 41).any greatN || decide (40 < xs.length)
theorem greatS_at {xs : List Nd} {k : Nat} {x : Nd} (hk : k ≤ 40) (h : xs[k]? = some x) (hg : greatN x = true) : greatS xs = true := by
  unfold greatS
  rw [List.any_eq_true.2 ⟨x, List.mem_of_getElem? (i := k) (by rw [List.getElem?_take, if_pos (by omega)]; exact h), hg⟩]
  rfl
theorem greatS_all {xs : List Nd} (h : ∀ j y, j ≤ 40 → xs[j]? = some y → greatN y = false) : greatS xs = decide (40 < xs.length) := by
  unfold greatS
  have : (xs.take 41).any greatN = false := by
    rw [Bool.eq_false_iff]
    intro ha
    obtain ⟨y, hy, hg⟩ := List.any_eq_true.1 ha
    obtain ⟨j, hj⟩ := List.mem_iff_getElem?.1 hy
    rw [List.getElem?_take] at hj
    split at hj
    · rw [h j y (by omega) hj] at hg
      cases hg
    · cases hj
  rw [this]
  rfl
theorem greatN_keys {x : Nd} {k : Nat} {y : Fl} (h : x.f[k]? = some y) (hs : 300 < y.key.size) : greatN x = true := by
  unfold greatN
  have : x.f.any (fun y => decide (300 < y.key.size)) = true := List.any_eq_true.2 ⟨y, List.mem_of_getElem? h, by simpa using hs⟩
  rw [this]
  simp
theorem greatN_none {x : Nd} (h1 : ¬ 20 < x.l.length) (h2 : ¬ 20 < x.f.length) (h3 : greatB x.v = false) (h4 : ∀ j y, j < x.f.length → x.f[j]? = some y → ¬ 300 < y.key.size) : greatN x = false := by
  unfold greatN
  have : x.f.any (fun y => decide (300 < y.key.size)) = false := by
    rw [Bool.eq_false_iff]
    intro ha
    obtain ⟨y, hy, hg⟩ := List.any_eq_true.1 ha
    obtain ⟨j, hj⟩ := List.mem_iff_getElem?.1 hy
    exact h4 j y (List.getElem?_eq_some_iff.1 hj).1 hj (by simpa using hg)
  rw [this, h3]
  simp [h1, h2]

set_option maxRecDepth 100000 in
set_option maxHeartbeats 8000000 in
theorem sref_Great (xs : List Nd) (A : Option Addr) (cap n : Nat) (w : World) (hn : n ≤ w.heap.size) (hx : RdN w n A xs) (ho : ∀ x ∈ xs, okN x) (hm : xs.length ≤ 1099511627776) :
    Calls Try.prog 6 #[vS A xs cap] w fun e w' => e = .returned (.bool (greatS xs)) ∧ Below w.heap.size w w' := by
  obtain ⟨w1, hw1, b1, S⟩ := iblk1 w 24 #[.slice A xs.length cap]
  have HF : Hid (∀ W, Below w.heap.size w W → RdN W n A xs) := Lib.hid fun W hW => hx.keep (hW.mono hn)
  have HOK := Lib.hid ho
  have HN := Lib.hid hn
  have HB := Lib.hid b1
  have HS := Lib.hid S
  have p0 := sblk b1
  have HUP : Hid (∀ W, Below w1.heap.size w1 W → Below w.heap.size w W) := Lib.hid fun W hW => S.trans (hW.mono S.size)
  obtain ⟨m, hml⟩ : ∃ m, xs.length = m := ⟨_, rfl⟩
  have HM := Lib.hid hml
  rw [hml] at p0 hw1 hm HB
  unfold vS
  rw [hml]
  clear b1 S hx hn ho hml
  obtain ⟨res, hres⟩ : ∃ r, greatS xs = r := ⟨_, rfl⟩
  rw [hres]
  have HRES := Lib.hid hres
  clear hres
  go_enter Try.func6, Try.ntmps6
  go_wp2_with fail
  go_loopw [3] (fun i wr => ∃ k : Nat, k ≤ m ∧ k ≤ 41 ∧ i = .int .i64 (k : Int) ∧ Hid (Below w1.heap.size w1 wr) ∧ Hid (∀ j y, j < k → xs[j]? = some y → greatN y = false)) (fun i _ => m - (intOf i).toNat)
  case atStart => exact ⟨0, by omega, by omega, rfl, Lib.hid (Below.refl _ _), Lib.hid fun j y hj => absurd hj (by omega)⟩
  case round =>
    obtain ⟨k, hk, hk', rfl, HBr, HE⟩ := hrel
    have s0 := sblk (HB.out.on HBr.out)
    by_cases hlt : k < m ∧ k ≤ 40
    · obtain ⟨hlt, hk40⟩ := hlt
      obtain ⟨b, o, x, p, rfl, hbn, hbw, X, mX, hnd, c0, c1, c2, c3, c4, c5, c6, c7, c8⟩ := (HF.out wr (HUP.out _ HBr.out)).get (i := k) (by rw [HM.out]; exact hlt)
      obtain ⟨Av, cv, Al, cl, Af, cf⟩ := p
      have hox := HOK.out x mX
      have hnr : n ≤ wr.heap.size := Nat.le_trans HN.out (HUP.out _ HBr.out).size
      have hcnt := hox.v.1
      have HG := Lib.hid (fun W (hW : Below wr.heap.size wr W) => ref_Great x.v Av cv n W (by omega) (Nat.le_trans hnr hW.size) (hnd.v.keep (hW.mono hnr)))
      have HFX : Hid (∀ W, Below wr.heap.size wr W → RdF W n Af x.f) := Lib.hid fun W hW => hnd.f.keep (hW.mono hnr)
      have HX := Lib.hid X
      obtain ⟨q, hq⟩ : ∃ q, x.f.length = q := ⟨_, rfl⟩
      have hqb : (q : Int) ≤ 1099511627776 := by have := hox.lf; omega
      have HQ := Lib.hid hq
      obtain ⟨wa, hwa⟩ : ∃ wa, wr.alloc (.cells (nc x ⟨Av, cv, Al, cl, Af, cf⟩) 43) = wa := ⟨_, rfl⟩
      have ba := Blk.fresh wr 43 (nc x ⟨Av, cv, Al, cl, Af, cf⟩)
      have Sa := below_alloc wr (.cells (nc x ⟨Av, cv, Al, cl, Af, cf⟩) 43)
      rw [hwa] at ba Sa
      have HSA := Lib.hid Sa
      have HU1 : Hid (∀ W, Below wa.heap.size wa W → Below w1.heap.size w1 W) := Lib.hid fun W hW => (HBr.out.trans (Sa.mono HBr.out.size)).trans (hW.mono (Nat.le_trans HBr.out.size Sa.size))
      have HU2 : Hid (∀ W, Below wa.heap.size wa W → Below wr.heap.size wr W) := Lib.hid fun W hW => Sa.trans (hW.mono Sa.size)
      have HBA : Hid (∀ W, Below wa.heap.size wa W → Blk W wr.heap.size 43 #[.int .i64 x.k, .int .i64 x.lo, .int .i64 x.hi, .int .i64 x.v.k, .int .u64 x.v.n, .string x.v.s, .slice Av x.v.l.length cv, .slice Al x.l.length cl, .slice Af q cf]) := Lib.hid fun W hW => by rw [← hq]; exact ba.on hW
      obtain ⟨p0', p1', p2', p3', p4', p5', p6', p7', p8'⟩ := nblk (HBA.out wa (Below.refl _ _))
      unfold nc at hwa
      simp only at hwa c6 c7 c8
      rw [hq] at hwa c8
      obtain ⟨g, hg⟩ : ∃ g, greatB x.v = g := ⟨_, rfl⟩
      rw [hg] at HG
      have HGG := Lib.hid hg
      obtain ⟨ll, hll⟩ : ∃ l, x.l.length = l := ⟨_, rfl⟩
      have HLL := Lib.hid hll
      rw [hll] at hwa c7 p7' HBA
      have e40 : (k : Int) ≤ 40 := by omega
      clear X mX hnd hox hnr hbn hbw hcnt ba Sa hq hg hll
      simp only [vI] at HG
      have TR : Hid (greatN x = true → res = true) := Lib.hid fun h => HRES.out.symm.trans (greatS_at hk40 HX.out h)
      by_cases h1 : 20 < ll
      · have HR : Hid (res = true) := Lib.hid (TR.out (by unfold greatN; rw [HLL.out]; simp [h1]))
        have e1 : (20 : Int) < ll := by omega
        clear h1
        go_wp2_with fail
        go_ret
        exact ⟨by rw [HR.out]; rfl, HUP.out _ (HU1.out _ (Below.refl _ _))⟩
      have e1 : ¬ (20 : Int) < ll := by omega
      by_cases h2 : 20 < q
      · have HR : Hid (res = true) := Lib.hid (TR.out (by unfold greatN; rw [HQ.out]; simp [h2]))
        have e2 : (20 : Int) < q := by omega
        clear h1 h2
        go_wp2_with fail
        go_ret
        exact ⟨by rw [HR.out]; rfl, HUP.out _ (HU1.out _ (Below.refl _ _))⟩
      have e2 : ¬ (20 : Int) < q := by omega
      have HLQ := Lib.hid (And.intro h1 h2)
      clear h1 h2
      cases g with
      | true =>
        have HR : Hid (res = true) := Lib.hid (TR.out (by unfold greatN; rw [HGG.out]; simp))
        go_wp2_with (first
          | (go_at_call 17; refine (HG.out _ HSA.out).mono ?_; rintro e w3 ⟨rfl, hb3⟩; have HB3 := Lib.hid (HU1.out _ hb3); clear hb3)
          | fail)
        go_ret
        exact ⟨by rw [HR.out]; rfl, HUP.out _ HB3.out⟩
      | false =>
        go_wp2_with (first
          | (go_at_call 17; refine (HG.out _ HSA.out).mono ?_; rintro e w3 ⟨rfl, hb3⟩; have HB3 := Lib.hid hb3; clear hb3)
          | fail)
        clear p0' p1' p2' p3' p4' p5' p6' p7' p8' hwa c0 c1 c2 c3 c4 c5 c6 c7 c8 s0
        obtain ⟨wo, rfl⟩ : ∃ wo, wo = wr := ⟨_, rfl⟩
        go_loopw [5] (fun v wr => ∃ j : Nat, j ≤ q ∧ v = .int .i64 (j : Int) ∧ Hid (Below wa.heap.size wa wr) ∧ Hid (∀ t y, t < j → x.f[t]? = some y → ¬ 300 < y.key.size)) (fun v _ => q - (intOf v).toNat)
        case atStart => exact ⟨0, by omega, rfl, HB3, Lib.hid fun t y ht => absurd ht (by omega)⟩
        case round =>
          obtain ⟨j, hj, rfl, HBj, HEj⟩ := hrel
          obtain ⟨-, -, -, -, -, -, -, -, a8⟩ := nblk (HBA.out _ HBj.out)
          by_cases hjq : j < q
          · obtain ⟨bf, of, fd, rfl, -, -, Y, d0, -, -⟩ := (HFX.out _ (HU2.out _ HBj.out)).get (i := j) (by rw [HQ.out]; exact hjq)
            have HY := Lib.hid Y
            clear Y
            by_cases h3 : 300 < fd.key.size
            · have HR : Hid (res = true) := Lib.hid (TR.out (greatN_keys HY.out h3))
              have e3 : (300 : Int) < (fd.key.size : Int) := by omega
              clear h3
              go_wp2_with fail
              go_ret
              exact ⟨by rw [HR.out]; rfl, HUP.out _ (HU1.out _ HBj.out)⟩
            · have e3 : ¬ (300 : Int) < (fd.key.size : Int) := by omega
              have H3 := Lib.hid h3
              clear h3
              go_wp2_with fail
              go_roundw
              case rel => exact ⟨j + 1, by omega, by simp, HBj, Lib.hid fun t y ht hy => by
                by_cases e : t = j
                · subst e
                  rw [HY.out] at hy
                  injection hy with hy
                  rw [← hy]
                  exact H3.out
                · exact HEj.out t y (by omega) hy⟩
              case measure => simp [intOf]; omega
          · obtain rfl : j = q := by omega
            have HNX : Hid (greatN x = false) := Lib.hid (greatN_none (by rw [HLL.out]; exact HLQ.out.1) (by rw [HQ.out]; exact HLQ.out.2) HGG.out (by rw [HQ.out]; exact HEj.out))
            go_wp2_with fail
            go_roundw
            case rel => exact ⟨k + 1, by omega, by omega, by simp, Lib.hid (HU1.out _ HBj.out), Lib.hid fun t y ht hy => by
              by_cases e : t = k
              · subst e
                rw [HX.out] at hy
                injection hy with hy
                rw [← hy]
                exact HNX.out
              · exact HE.out t y (by omega) hy⟩
            case measure => simp [intOf]; omega
    · have HR : Hid (res = decide (40 < m)) := Lib.hid (by
        rw [← HRES.out, ← HM.out]
        refine greatS_all fun j y hj hy => HE.out j y ?_ hy
        have := (List.getElem?_eq_some_iff.1 hy).1
        rw [HM.out] at this
        omega)
      by_cases h1 : k < m
      · have e1 : ¬ (k : Int) ≤ 40 := by omega
        have e2 : (40 : Int) < m := by omega
        have HR' : Hid (res = true) := Lib.hid (by rw [HR.out]; simp; omega)
        clear hlt
        go_wp2_with fail
        go_ret
        exact ⟨by rw [HR'.out]; first | rfl | simp [e2], HUP.out _ HBr.out⟩
      · obtain rfl : k = m := by omega
        clear hlt
        go_wp2_with fail
        go_ret
        exact ⟨by rw [HR.out]; simp; omega, HUP.out _ HBr.out⟩
end Go.Proofs.Ytgbbgdjdomkohaa
