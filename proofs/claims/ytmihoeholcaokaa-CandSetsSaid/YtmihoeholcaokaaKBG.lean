/- Results of several kinds. -/
import Derived.Test.YtmihoeholcaokaaKAA
import Derived.Test.YtmihoeholcaokaaKBF
namespace Go.Proofs.Ytmihoeholcaokaa
open Go.RowKit

theorem results_tmp3 {fn : Func} {t u v : Tmp} (h : fn.results = #[.tmp t, .tmp u, .tmp v]) (tmps : Array Value) (P : Program) (w : World) :
    (results fn tmps).run P w = .ok (.tuple #[tmps.getD t undef, tmps.getD u undef, tmps.getD v undef]) w := by
  simp [results, h]
theorem results_tmp6 {fn : Func} {t u v x y z : Tmp} (h : fn.results = #[.tmp t, .tmp u, .tmp v, .tmp x, .tmp y, .tmp z]) (tmps : Array Value) (P : Program) (w : World) :
    (results fn tmps).run P w = .ok (.tuple #[tmps.getD t undef, tmps.getD u undef, tmps.getD v undef, tmps.getD x undef, tmps.getD y undef, tmps.getD z undef]) w := by
  simp [results, h]
/-- A struct in memory ahead of two numbers. -/
theorem results_blk3 {P : Program} {fn : Func} {p a b : Tmp} {ty : TypeId} (h : fn.results = #[.cell p ty, .tmp a, .tmp b]) (tmps : Array Value) {w : World} {g : Nat} {t : TypeId} {cs : Array Value} {d : TypeDesc} (hp : tmps.getD p undef = .pointer (some ⟨g, 0, none⟩))
    (hg : Blk w g t cs) (hu : P.underlying ty = some d) (hd : d.isRow = true) (hi : (P.info? ty).map (·.size) = some cs.size) :
    (results fn tmps).run P w = .ok (.tuple #[.agg cs, tmps.getD a undef, tmps.getD b undef]) w := by
  have hp' : tmps[p]?.getD undef = .pointer (some ⟨g, 0, none⟩) := by simpa using hp
  have hl := run_loadVar_row w g t ty cs (0, 0) d hg hu (by cases d <;> simp_all [TypeDesc.isRow]) hi
  simp [results, h, hp', asAddr, hl]
/-- A struct in memory ahead of one. -/
theorem results_blk2 {P : Program} {fn : Func} {p a : Tmp} {ty : TypeId} (h : fn.results = #[.cell p ty, .tmp a]) (tmps : Array Value) {w : World} {g : Nat} {t : TypeId} {cs : Array Value} {d : TypeDesc} (hp : tmps.getD p undef = .pointer (some ⟨g, 0, none⟩))
    (hg : Blk w g t cs) (hu : P.underlying ty = some d) (hd : d.isRow = true) (hi : (P.info? ty).map (·.size) = some cs.size) :
    (results fn tmps).run P w = .ok (.tuple #[.agg cs, tmps.getD a undef]) w := by
  have hp' : tmps[p]?.getD undef = .pointer (some ⟨g, 0, none⟩) := by simpa using hp
  have hl := run_loadVar_row w g t ty cs (0, 0) d hg hu (by cases d <;> simp_all [TypeDesc.isRow]) hi
  simp [results, h, hp', asAddr, hl]
end Go.Proofs.Ytmihoeholcaokaa

/- Package schema: Check, Width. -/
namespace Go.Proofs.Ytmihoeholcaokaa
open Go.RowKit

theorem checkE_bad {ch : It → Int} {xs : List Nd} (h : xs.length < 1 ∨ 256 < xs.length) : checkE ch xs = 16 ∧ checkI ch xs = 0 := ⟨by rw [checkE, if_pos h], by rw [checkI, if_pos h]⟩
theorem checkE_at {ch : It → Int} {xs : List Nd} {k : Nat} {x : Nd} (h : ¬ (xs.length < 1 ∨ 256 < xs.length)) (h0 : ∀ j, j < k → errN ch xs j = 0) (hx : xs[k]? = some x) (he : wrongN ch x k xs.length ≠ 0) : checkE ch xs = wrongN ch x k xs.length ∧ checkI ch xs = k := by
  have hk := (List.getElem?_eq_some_iff.1 hx).1
  have e := errN_some (ch := ch) hx
  exact ⟨by rw [checkE, if_neg h, firstE_at hk h0 (by rw [e]; exact he), e], by rw [checkI, if_neg h, firstI_at hk h0 (by rw [e]; exact he)]⟩
theorem checkE_all {ch : It → Int} {xs : List Nd} (h : ¬ (xs.length < 1 ∨ 256 < xs.length)) (h0 : ∀ j, j < xs.length → errN ch xs j = 0) : checkE ch xs = 0 ∧ checkI ch xs = 0 :=
  ⟨by rw [checkE, if_neg h, firstE_all h0], by rw [checkI, if_neg h, firstI_all h0]⟩
/-- A block of one cell. -/
theorem sblk {w : World} {g : Nat} {t : TypeId} {a : Value} (h : Blk w g t #[a]) : w.cell? ⟨g, 0, none⟩ = some a := by rw [h.cell]; rfl

set_option maxRecDepth 100000 in
set_option maxHeartbeats 4000000 in
theorem sch_Check (xs : List Nd) (A : Option Addr) (cap n : Nat) (w : World) (hn : n ≤ w.heap.size) (hx : RdN w n A xs) (ho : ∀ x ∈ xs, okN x) (hm : xs.length ≤ 1099511627776) :
    Calls Try.prog 23 #[vS A xs cap] w fun e w' => e = .returned (.tuple #[.int .i64 (checkI chI xs : Nat), .int .i64 (checkE chI xs)]) ∧ Below w.heap.size w w' := by
  obtain ⟨w1, hw1, b1, S⟩ := iblk1 w 45 #[.slice A xs.length cap]
  have HF : Hid (∀ W, Below w.heap.size w W → RdN W n A xs) := Lib.hid fun W hW => hx.keep (hW.mono hn)
  have HOK := Lib.hid ho
  have HN := Lib.hid hn
  have HB := Lib.hid b1
  have HS := Lib.hid S
  have p0 := sblk b1
  have HUP : Hid (∀ W, Below w1.heap.size w1 W → Below w.heap.size w W) := Lib.hid fun W hW => S.trans (hW.mono S.size)
  obtain ⟨m, hml⟩ : ∃ m, xs.length = m := ⟨_, rfl⟩
  have HM := Lib.hid hml
  rw [hml] at p0 hw1 hm HB
  unfold vS
  rw [hml]
  clear b1 S hx hn ho hml
  obtain ⟨ri, hri⟩ : ∃ ri : Int, ((checkI chI xs : Nat) : Int) = ri := ⟨_, rfl⟩
  obtain ⟨re, hre⟩ : ∃ re, checkE chI xs = re := ⟨_, rfl⟩
  rw [hri, hre]
  have HRI := Lib.hid hri
  have HRE := Lib.hid hre
  clear hri hre
  have HSET : Hid (∀ a b, checkE chI xs = a ∧ checkI chI xs = b → re = a ∧ ri = (b : Int)) := Lib.hid fun a b h => ⟨HRE.out.symm.trans h.1, HRI.out.symm.trans (by rw [h.2])⟩
  clear HRI HRE
  go_enter Try.func23, Try.ntmps23
  by_cases hb : m < 1 ∨ 256 < m
  · obtain ⟨rfl, rfl⟩ := HSET.out _ _ (checkE_bad (ch := chI) (by rw [HM.out]; exact hb))
    rcases hb with hb | hb
    · have e1 : (m : Int) < 1 := by omega
      clear hb
      go_wp2_with fail
      go_ret2
      exact ⟨rfl, HS.out⟩
    · have e1 : ¬ (m : Int) < 1 := by omega
      have e2 : (256 : Int) < m := by omega
      clear hb
      go_wp2_with fail
      go_ret2
      exact ⟨rfl, HS.out⟩
  have e1 : ¬ (m : Int) < 1 := by omega
  have e2 : ¬ (256 : Int) < m := by omega
  have HBAD : Hid (¬ (xs.length < 1 ∨ 256 < xs.length)) := Lib.hid (by rw [HM.out]; exact hb)
  clear hb
  go_wp2_with fail
  clear e1 e2
  go_loopw [20] (fun i wr => ∃ k : Nat, k ≤ m ∧ i = .int .i64 (k : Int) ∧ Hid (Below w1.heap.size w1 wr) ∧ Hid (∀ j, j < k → errN chI xs j = 0)) (fun i _ => m - (intOf i).toNat)
  case atStart => exact ⟨0, by omega, rfl, Lib.hid (Below.refl _ _), Lib.hid fun j hj => absurd hj (by omega)⟩
  case round =>
    obtain ⟨k, hk, rfl, HBr, HE⟩ := hrel
    by_cases hlt : k < m
    · obtain ⟨b, o, x, p, rfl, hbn, hbw, X, mX, hnd, c0, c1, c2, c3, c4, c5, c6, c7, c8⟩ := (HF.out wr (HUP.out _ HBr.out)).get (i := k) (by rw [HM.out]; exact hlt)
      have hox := HOK.out x mX
      have hnr : n ≤ wr.heap.size := Nat.le_trans HN.out (HUP.out _ HBr.out).size
      have HCH := Lib.hid (fun W (hW : Below wr.heap.size wr W) => sch_checkOne x p n (k : Int) (m : Int) W (Nat.le_trans hnr hW.size) (hnd.keep (hW.mono hnr)) hox)
      have HX := Lib.hid X
      have HBK : Hid (∀ W, Below (wr.alloc (.cells (nc x p) 42)).heap.size (wr.alloc (.cells (nc x p) 42)) W → Below w1.heap.size w1 W) := Lib.hid fun W hb => (HBr.out.trans ((below_alloc wr _).mono HBr.out.size)).trans (hb.mono (Nat.le_trans HBr.out.size (below_alloc wr _).size))
      have HAL := Lib.hid (below_alloc wr (.cells (nc x p) 42))
      have HSB : Hid (∀ W, Below w1.heap.size w1 W → W.cell? ⟨w.heap.size, 0, none⟩ = some (.slice (some ⟨b, o, none⟩) m cap)) := Lib.hid fun W hb => sblk (HB.out.on hb)
      have s0 := HSB.out _ HBr.out
      have s1 := HSB.out _ (HBr.out.trans ((below_alloc wr (.cells (nc x p) 42)).mono HBr.out.size))
      clear X mX hnd hox hnr hbn hbw
      obtain ⟨r, hr⟩ : ∃ r, wrongN chI x k m = r := ⟨_, rfl⟩
      rw [hr] at HCH
      have HR := Lib.hid hr
      clear hr
      unfold nc at HBK HAL s1
      simp only [vN] at HCH
      by_cases h0 : r = 0
      · subst h0
        have HNX : Hid (errN chI xs k = 0) := Lib.hid (by rw [errN_some HX.out, HM.out]; exact HR.out)
        go_wp2_with (first
          | (go_at_call 24; refine (HCH.out _ HAL.out).mono ?_; rintro e w4 ⟨rfl, hb4⟩; have HB4 := Lib.hid (HBK.out _ hb4); clear hb4)
          | fail)
        go_roundw
        case rel => exact ⟨k + 1, by omega, by simp, HB4, Lib.hid fun j hj => by
          by_cases e : j = k
          · rw [e]; exact HNX.out
          · exact HE.out j (by omega)⟩
        case measure => simp [intOf]; omega
      · obtain ⟨rfl, rfl⟩ := HSET.out _ _ (by have := checkE_at (ch := chI) HBAD.out HE.out HX.out (by rw [HM.out, HR.out]; exact h0); rw [HM.out, HR.out] at this; exact this)
        have e3 : (re != 0) = true := by simp [h0]
        clear h0
        go_wp2_with (first
          | (go_at_call 24; refine (HCH.out _ HAL.out).mono ?_; rintro e w4 ⟨rfl, hb4⟩; have HB4 := Lib.hid (HBK.out _ hb4); clear hb4)
          | fail)
        go_ret2
        exact ⟨rfl, HUP.out _ HB4.out⟩
    · obtain rfl : k = m := by omega
      obtain ⟨rfl, rfl⟩ := HSET.out _ _ (checkE_all (ch := chI) HBAD.out (by rw [HM.out]; exact HE.out))
      go_wp2_with fail
      go_ret2
      exact ⟨rfl, HUP.out _ HBr.out⟩

end Go.Proofs.Ytmihoeholcaokaa

/- Package denote: Number, within; which items match a node by itself. -/
namespace Go.Proofs.Ytmihoeholcaokaa
open Go.RowKit

/-- An item's number, if it has one that fits. -/
def numR (k n : Int) : Int × Bool := if 9223372036854775807 < n then (0, false) else if k = 0 then (n, true) else if k = 1 then (-1 - n, true) else (0, false)
theorem numR_great {k n : Int} (h : 9223372036854775807 < n) : numR k n = (0, false) := by unfold numR; rw [if_pos h]
theorem numR_zero {n : Int} (h : ¬ 9223372036854775807 < n) : numR 0 n = (n, true) := by unfold numR; rw [if_neg h, if_pos rfl]
theorem numR_one {n : Int} (h : ¬ 9223372036854775807 < n) : numR 1 n = (-1 - n, true) := by unfold numR; rw [if_neg h, if_neg (by decide), if_pos rfl]
theorem numR_other {k n : Int} (h0 : ¬ k = 0) (h1 : ¬ k = 1) : numR k n = (0, false) := by
  unfold numR
  rw [if_neg h0, if_neg h1]
  split <;> rfl
def inR (z lo hi : Int) : Bool := decide (lo ≤ z) && decide (z ≤ hi)
set_option maxRecDepth 100000 in
set_option maxHeartbeats 1000000 in
theorem den_Number (k n : Int) (s : ByteArray) (A : Option Addr) (m cap : Nat) (w : World) (h0 : 0 ≤ n) :
    Calls Try.prog 18 #[.agg #[.int .i64 k, .int .u64 n, .string s, .slice A m cap]] w fun e w' => e = .returned (.tuple #[.int .i64 (numR k n).1, .bool (numR k n).2]) ∧ Below w.heap.size w w' := by
  obtain ⟨w1, hw1, b1, S⟩ := iblk1 w 39 #[.int .i64 k, .int .u64 n, .string s, .slice A m cap]
  obtain ⟨p0, p1, p2, p3, -⟩ := iblk b1
  have HS := Lib.hid S
  clear S b1
  by_cases hg : 9223372036854775807 < n
  · rw [numR_great hg]
    go_enter Try.func18, Try.ntmps18
    go_wp2_with fail
    go_ret2
    exact ⟨rfl, HS.out⟩
  · have e1 : wrap64 n = n := by unfold wrap64; omega
    have e2 : wrap64 (-1 - n) = -1 - n := by unfold wrap64; omega
    by_cases h1 : k = 0
    · subst h1
      rw [numR_zero (by omega)]
      go_enter Try.func18, Try.ntmps18
      go_wp2_with fail
      go_ret2
      exact ⟨rfl, HS.out⟩
    · by_cases h2 : k = 1
      · subst h2
        rw [numR_one (by omega)]
        go_enter Try.func18, Try.ntmps18
        go_wp2_with fail
        go_ret2
        exact ⟨rfl, HS.out⟩
      · rw [numR_other h1 h2]
        go_enter Try.func18, Try.ntmps18
        go_wp2_with fail
        go_ret2
        exact ⟨rfl, HS.out⟩
/-- Does an item match a node that names no other (of a number, bytes, a text)? -/
def loneR (k lo hi : Int) (x : It) : Bool :=
  if k = 1 then (numR x.k x.n).2 && inR (numR x.k x.n).1 lo hi else if k = 2 then decide (x.k = 2) && inR x.s.size lo hi else decide (x.k = 3) && inR x.s.size lo hi
end Go.Proofs.Ytmihoeholcaokaa

/- The document's example of schemas. -/
namespace Go.Proofs.Ytmihoeholcaokaa
open Go.RowKit

/-- The example. -/
def aw : List Nd := [⟨10, 0, 0, zIt, [1, 2], []⟩, ⟨3, 0, 9, zIt, [], []⟩, ⟨6, 0, 9, zIt, [2], []⟩]
theorem okI_z : okI 1048576 zIt := by
  refine ⟨by simp [zIt, It.count, countL], fun d p hp => ?_⟩
  simp only [zIt, It.items, itemsL, List.mem_cons, List.not_mem_nil, or_false] at hp
  subst hp
  exact ⟨Int.le_refl _, by show (0 : Int) < _; omega, Nat.zero_le _⟩
theorem aw_ok : ∀ x ∈ aw, okN x := by
  intro x hx
  simp only [aw, List.mem_cons, List.not_mem_nil, or_false] at hx
  rcases hx with rfl | rfl | rfl <;> exact ⟨okI_z, fun y hy => (by cases hy), by simp⟩
theorem keys_nil : keysN [] = 0 := rfl
theorem aw_vals : checkE chI aw = 13 ∧ checkI chI aw = 2 := by
  have e0 : errN chI aw 0 = 0 := by
    rw [errN_some (x := ⟨10, 0, 0, zIt, [1, 2], []⟩) rfl]
    have hf : formN chI ⟨10, 0, 0, zIt, [1, 2], []⟩ = true := by simp [formN, Nd.of, sameN]
    simp [wrongN, hf, rangedN, keys_nil, nameE, namedN, nameB, aw]
  have e1 : errN chI aw 1 = 0 := by
    rw [errN_some (x := ⟨3, 0, 9, zIt, [], []⟩) rfl]
    have hf : formN chI ⟨3, 0, 9, zIt, [], []⟩ = true := by simp [formN, Nd.of, sameN]
    simp [wrongN, hf, rangedN, keys_nil, nameE, namedN]
  have e2 : wrongN chI ⟨6, 0, 9, zIt, [2], []⟩ (2 : Nat) aw.length = 13 := by
    have hf : formN chI ⟨6, 0, 9, zIt, [2], []⟩ = true := by simp [formN, Nd.of, sameN]
    simp [wrongN, hf, rangedN, keys_nil, nameE, namedN, nameB]
  have h := checkE_at (ch := chI) (xs := aw) (k := 2) (by simp [aw]) (fun j hj => by
    rcases (by omega : j = 0 ∨ j = 1) with rfl | rfl
    · exact e0
    · exact e1) rfl (by rw [e2]; decide)
  rw [e2] at h
  exact h
def awc : Nat → Array Value := fun g => #[.int .i64 10, .int .i64 0, .int .i64 0, .int .i64 0, .int .u64 0, .string ⟨#[]⟩, .slice none 0 0, .slice (some ⟨g, 0, none⟩) 2 2, .slice none 0 0,
  .int .i64 3, .int .i64 0, .int .i64 9, .int .i64 0, .int .u64 0, .string ⟨#[]⟩, .slice none 0 0, .slice none 0 0, .slice none 0 0,
  .int .i64 6, .int .i64 0, .int .i64 9, .int .i64 0, .int .u64 0, .string ⟨#[]⟩, .slice none 0 0, .slice (some ⟨g + 1, 0, none⟩) 1 1, .slice none 0 0]
theorem aw_at (w : World) : ∃ w1, ((w.alloc (.cells #[.int .i64 1, .int .i64 2] 3)).alloc (.cells #[.int .i64 2] 3)).alloc (.cells (awc w.heap.size) 42) = w1 ∧ RdN w1 w1.heap.size (some ⟨w.heap.size + 2, 0, none⟩) aw ∧ Below w.heap.size w w1 := by
  refine ⟨_, rfl, ?_, ((below_alloc w _).alloc (by simp) _).alloc (by simp; omega) _⟩
  have b0 := ((Blk.fresh w 3 (nums .i64 [1, 2])).alloc (.cells #[.int .i64 2] 3)).alloc (.cells (awc w.heap.size) 42)
  have b1 := (Blk.freshAt (w.alloc (.cells #[.int .i64 1, .int .i64 2] 3)) 3 (nums .i64 [2]) (w.heap.size + 1) (by simp)).alloc (.cells (awc w.heap.size) 42)
  have b2 := Blk.freshAt ((w.alloc (.cells #[.int .i64 1, .int .i64 2] 3)).alloc (.cells #[.int .i64 2] 3)) 42 (awc w.heap.size) (w.heap.size + 2) (by simp)
  intro _
  refine ⟨w.heap.size + 2, 0, rfl, b2.lt, b2.lt, fun i x hx => ?_⟩
  have hi := (List.getElem?_eq_some_iff.1 hx).1
  have r0 := b0.rd
  have r1 := b1.rd
  rcases (by simp [aw] at hi; omega : i = 0 ∨ i = 1 ∨ i = 2) with rfl | rfl | rfl
  · obtain rfl : (⟨10, 0, 0, zIt, [1, 2], []⟩ : Nd) = x := by injection hx
    refine ⟨⟨none, 0, some ⟨w.heap.size, 0, none⟩, 2, none, 0⟩, ⟨zIt_at _ _, r0, Nat.le_refl _, (fun h => by cases h), RdF.nil, Nat.le_refl _, fun _ => rfl⟩, fun j u hu => ?_⟩
    rw [b2.cell]
    have hj := (Array.getElem?_eq_some_iff.1 hu).1
    simp [nc] at hj
    rcases (by omega : j = 0 ∨ j = 1 ∨ j = 2 ∨ j = 3 ∨ j = 4 ∨ j = 5 ∨ j = 6 ∨ j = 7 ∨ j = 8) with rfl | rfl | rfl | rfl | rfl | rfl | rfl | rfl | rfl <;> exact hu
  · obtain rfl : (⟨3, 0, 9, zIt, [], []⟩ : Nd) = x := by injection hx
    refine ⟨⟨none, 0, none, 0, none, 0⟩, ⟨zIt_at _ _, (fun h => absurd h (by simp)), Nat.le_refl _, (fun _ => rfl), RdF.nil, Nat.le_refl _, fun _ => rfl⟩, fun j u hu => ?_⟩
    rw [b2.cell]
    have hj := (Array.getElem?_eq_some_iff.1 hu).1
    simp [nc] at hj
    rcases (by omega : j = 0 ∨ j = 1 ∨ j = 2 ∨ j = 3 ∨ j = 4 ∨ j = 5 ∨ j = 6 ∨ j = 7 ∨ j = 8) with rfl | rfl | rfl | rfl | rfl | rfl | rfl | rfl | rfl <;> exact hu
  · obtain rfl : (⟨6, 0, 9, zIt, [2], []⟩ : Nd) = x := by injection hx
    refine ⟨⟨none, 0, some ⟨w.heap.size + 1, 0, none⟩, 1, none, 0⟩, ⟨zIt_at _ _, r1, Nat.le_refl _, (fun h => by cases h), RdF.nil, Nat.le_refl _, fun _ => rfl⟩, fun j u hu => ?_⟩
    rw [b2.cell]
    have hj := (Array.getElem?_eq_some_iff.1 hu).1
    simp [nc] at hj
    rcases (by omega : j = 0 ∨ j = 1 ∨ j = 2 ∨ j = 3 ∨ j = 4 ∨ j = 5 ∨ j = 6 ∨ j = 7 ∨ j = 8) with rfl | rfl | rfl | rfl | rfl | rfl | rfl | rfl | rfl <;> exact hu

end Go.Proofs.Ytmihoeholcaokaa
