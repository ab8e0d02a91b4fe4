/- Results of several kinds. -/
import Derived.Test.YtgbbgdjdomkohaaKAC
import Derived.Test.YtgbbgdjdomkohaaKBF
import Derived.Test.YtgbbgdjdomkohaaKAW
import Derived.Test.YtgbbgdjdomkohaaKAY
import Derived.Test.YtgbbgdjdomkohaaKBD
namespace Go.Proofs.Ytgbbgdjdomkohaa
open Go.RowKit

theorem results_tmp3 {fn : Func} {t u v : Tmp} (h : fn.results = #[.tmp t, .tmp u, .tmp v]) (tmps : Array Value) (P : Program) (w : World) :
    (results fn tmps).run P w = .ok (.tuple #[tmps.getD t undef, tmps.getD u undef, tmps.getD v undef]) w := by
  simp [results, h]
theorem results_tmp6 {fn : Func} {t u v x y z : Tmp} (h : fn.results = #[.tmp t, .tmp u, .tmp v, .tmp x, .tmp y, .tmp z]) (tmps : Array Value) (P : Program) (w : World) :
    (results fn tmps).run P w = .ok (.tuple #[tmps.getD t undef, tmps.getD u undef, tmps.getD v undef, tmps.getD x undef, tmps.getD y undef, tmps.getD z undef]) w := by
  simp [results, h]
/-- A struct in memory ahead of two numbers. -/
theorem results_blk3 {P : Program} {fn : Func} {p a b : Tmp} {ty : TypeId} (h : fn.results = #[.cell p ty, .tmp a, .tmp b]) (tmps : Array Value) {w : World} {g : Nat} {t : TypeId} {cs : Array Value} {d : TypeDesc} (hp : tmps.getD p undef = .pointer (some ⟨g, 0, none⟩))
    (hg : Blk w g t cs) (hu : P.underlying ty = some d) (hd : d.isRow = true) (hi : (P.info? ty).map (·.size) = some cs.size) :
    (results fn tmps).run P w = .ok (.tuple #[.agg cs, tmps.getD a undef, tmps.getD b undef]) w := by
  have hp' : tmps[p]?.getD undef = .pointer (some ⟨g, 0, none⟩) := by simpa using hp
  have hl := run_loadVar_row w g t ty cs (0, 0) d hg hu (by cases d <;> simp_all [TypeDesc.isRow]) hi
  simp [results, h, hp', asAddr, hl]
/-- A struct in memory ahead of one. -/
theorem results_blk2 {P : Program} {fn : Func} {p a : Tmp} {ty : TypeId} (h : fn.results = #[.cell p ty, .tmp a]) (tmps : Array Value) {w : World} {g : Nat} {t : TypeId} {cs : Array Value} {d : TypeDesc} (hp : tmps.getD p undef = .pointer (some ⟨g, 0, none⟩))
    (hg : Blk w g t cs) (hu : P.underlying ty = some d) (hd : d.isRow = true) (hi : (P.info? ty).map (·.size) = some cs.size) :
    (results fn tmps).run P w = .ok (.tuple #[.agg cs, tmps.getD a undef]) w := by
  have hp' : tmps[p]?.getD undef = .pointer (some ⟨g, 0, none⟩) := by simpa using hp
  have hl := run_loadVar_row w g t ty cs (0, 0) d hg hu (by cases d <;> simp_all [TypeDesc.isRow]) hi
  simp [results, h, hp', asAddr, hl]
end Go.Proofs.Ytgbbgdjdomkohaa

/- Package schema: Check, Width. -/
namespace Go.Proofs.Ytgbbgdjdomkohaa
open Go.RowKit

theorem checkE_bad {ch : It → Int} {xs : List Nd} (h : xs.length < 1 ∨ 256 < xs.length) : checkE ch xs = 16 ∧ checkI ch xs = 0 := ⟨by rw [checkE, if_pos h], by rw [checkI, if_pos h]⟩
theorem checkE_at {ch : It → Int} {xs : List Nd} {k : Nat} {x : Nd} (h : ¬ (xs.length < 1 ∨ 256 < xs.length)) (h0 : ∀ j, j < k → errN ch xs j = 0) (hx : xs[k]? = some x) (he : wrongN ch x k xs.length ≠ 0) : checkE ch xs = wrongN ch x k xs.length ∧ checkI ch xs = k := by
  have hk := (List.getElem?_eq_some_iff.1 hx).1
  have e := errN_some (ch := ch) hx
  exact ⟨by rw [checkE, if_neg h, firstE_at hk h0 (by rw [e]; exact he), e], by rw [checkI, if_neg h, firstI_at hk h0 (by rw [e]; exact he)]⟩
theorem checkE_all {ch : It → Int} {xs : List Nd} (h : ¬ (xs.length < 1 ∨ 256 < xs.length)) (h0 : ∀ j, j < xs.length → errN ch xs j = 0) : checkE ch xs = 0 ∧ checkI ch xs = 0 :=
  ⟨by rw [checkE, if_neg h, firstE_all h0], by rw [checkI, if_neg h, firstI_all h0]⟩
/-- A block of one cell. -/
theorem sblk {w : World} {g : Nat} {t : TypeId} {a : Value} (h : Blk w g t #[a]) : w.cell? ⟨g, 0, none⟩ = some a := by rw [h.cell]; rfl

set_option maxRecDepth 100000 in
set_option maxHeartbeats 4000000 in
theorem sch_Check (xs : List Nd) (A : Option Addr) (cap n : Nat) (w : World) (hn : n ≤ w.heap.size) (hx : RdN w n A xs) (ho : ∀ x ∈ xs, okN x) (hm : xs.length ≤ 1099511627776) :
    Calls Try.prog 7 #[vS A xs cap] w fun e w' => e = .returned (.tuple #[.int .i64 (checkI chI xs : Nat), .int .i64 (checkE chI xs)]) ∧ Below w.heap.size w w' := by
  obtain ⟨w1, hw1, b1, S⟩ := iblk1 w 24 #[.slice A xs.length cap]
  have HF : Hid (∀ W, Below w.heap.size w W → RdN W n A xs) := Lib.hid fun W hW => hx.keep (hW.mono hn)
  have HOK := Lib.hid ho
  have HN := Lib.hid hn
  have HB := Lib.hid b1
  have HS := Lib.hid S
  have p0 := sblk b1
  have HUP : Hid (∀ W, Below w1.heap.size w1 W → Below w.heap.size w W) := Lib.hid fun W hW => S.trans (hW.mono S.size)
  obtain ⟨m, hml⟩ : ∃ m, xs.length = m := ⟨_, rfl⟩
  have HM := Lib.hid hml
  rw [hml] at p0 hw1 hm HB
  unfold vS
  rw [hml]
  clear b1 S hx hn ho hml
  obtain ⟨ri, hri⟩ : ∃ ri : Int, ((checkI chI xs : Nat) : Int) = ri := ⟨_, rfl⟩
  obtain ⟨re, hre⟩ : ∃ re, checkE chI xs = re := ⟨_, rfl⟩
  rw [hri, hre]
  have HRI := Lib.hid hri
  have HRE := Lib.hid hre
  clear hri hre
  have HSET : Hid (∀ a b, checkE chI xs = a ∧ checkI chI xs = b → re = a ∧ ri = (b : Int)) := Lib.hid fun a b h => ⟨HRE.out.symm.trans h.1, HRI.out.symm.trans (by rw [h.2])⟩
  clear HRI HRE
  go_enter Try.func7, Try.ntmps7
  by_cases hb : m < 1 ∨ 256 < m
  · obtain ⟨rfl, rfl⟩ := HSET.out _ _ (checkE_bad (ch := chI) (by rw [HM.out]; exact hb))
    rcases hb with hb | hb
    · have e1 : (m : Int) < 1 := by omega
      clear hb
      go_wp2_with fail
      go_ret2
      exact ⟨rfl, HS.out⟩
    · have e1 : ¬ (m : Int) < 1 := by omega
      have e2 : (256 : Int) < m := by omega
      clear hb
      go_wp2_with fail
      go_ret2
      exact ⟨rfl, HS.out⟩
  have e1 : ¬ (m : Int) < 1 := by omega
  have e2 : ¬ (256 : Int) < m := by omega
  have HBAD : Hid (¬ (xs.length < 1 ∨ 256 < xs.length)) := Lib.hid (by rw [HM.out]; exact hb)
  clear hb
  go_wp2_with fail
  clear e1 e2
  go_loopw [20] (fun i wr => ∃ k : Nat, k ≤ m ∧ i = .int .i64 (k : Int) ∧ Hid (Below w1.heap.size w1 wr) ∧ Hid (∀ j, j < k → errN chI xs j = 0)) (fun i _ => m - (intOf i).toNat)
  case atStart => exact ⟨0, by omega, rfl, Lib.hid (Below.refl _ _), Lib.hid fun j hj => absurd hj (by omega)⟩
  case round =>
    obtain ⟨k, hk, rfl, HBr, HE⟩ := hrel
    by_cases hlt : k < m
    · obtain ⟨b, o, x, p, rfl, hbn, hbw, X, mX, hnd, c0, c1, c2, c3, c4, c5, c6, c7, c8⟩ := (HF.out wr (HUP.out _ HBr.out)).get (i := k) (by rw [HM.out]; exact hlt)
      have hox := HOK.out x mX
      have hnr : n ≤ wr.heap.size := Nat.le_trans HN.out (HUP.out _ HBr.out).size
      have HCH := Lib.hid (fun W (hW : Below wr.heap.size wr W) => sch_checkOne x p n (k : Int) (m : Int) W (Nat.le_trans hnr hW.size) (hnd.keep (hW.mono hnr)) hox)
      have HX := Lib.hid X
      have HBK : Hid (∀ W, Below (wr.alloc (.cells (nc x p) 43)).heap.size (wr.alloc (.cells (nc x p) 43)) W → Below w1.heap.size w1 W) := Lib.hid fun W hb => (HBr.out.trans ((below_alloc wr _).mono HBr.out.size)).trans (hb.mono (Nat.le_trans HBr.out.size (below_alloc wr _).size))
      have HAL := Lib.hid (below_alloc wr (.cells (nc x p) 43))
      have HSB : Hid (∀ W, Below w1.heap.size w1 W → W.cell? ⟨w.heap.size, 0, none⟩ = some (.slice (some ⟨b, o, none⟩) m cap)) := Lib.hid fun W hb => sblk (HB.out.on hb)
      have s0 := HSB.out _ HBr.out
      have s1 := HSB.out _ (HBr.out.trans ((below_alloc wr (.cells (nc x p) 43)).mono HBr.out.size))
      clear X mX hnd hox hnr hbn hbw
      obtain ⟨r, hr⟩ : ∃ r, wrongN chI x k m = r := ⟨_, rfl⟩
      rw [hr] at HCH
      have HR := Lib.hid hr
      clear hr
      unfold nc at HBK HAL s1
      simp only [vN] at HCH
      by_cases h0 : r = 0
      · subst h0
        have HNX : Hid (errN chI xs k = 0) := Lib.hid (by rw [errN_some HX.out, HM.out]; exact HR.out)
        go_wp2_with (first
          | (go_at_call 18; refine (HCH.out _ HAL.out).mono ?_; rintro e w4 ⟨rfl, hb4⟩; have HB4 := Lib.hid (HBK.out _ hb4); clear hb4)
          | fail)
        go_roundw
        case rel => exact ⟨k + 1, by omega, by simp, HB4, Lib.hid fun j hj => by
          by_cases e : j = k
          · rw [e]; exact HNX.out
          · exact HE.out j (by omega)⟩
        case measure => simp [intOf]; omega
      · obtain ⟨rfl, rfl⟩ := HSET.out _ _ (by have := checkE_at (ch := chI) HBAD.out HE.out HX.out (by rw [HM.out, HR.out]; exact h0); rw [HM.out, HR.out] at this; exact this)
        have e3 : (re != 0) = true := by simp [h0]
        clear h0
        go_wp2_with (first
          | (go_at_call 18; refine (HCH.out _ HAL.out).mono ?_; rintro e w4 ⟨rfl, hb4⟩; have HB4 := Lib.hid (HBK.out _ hb4); clear hb4)
          | fail)
        go_ret2
        exact ⟨rfl, HUP.out _ HB4.out⟩
    · obtain rfl : k = m := by omega
      obtain ⟨rfl, rfl⟩ := HSET.out _ _ (checkE_all (ch := chI) HBAD.out (by rw [HM.out]; exact HE.out))
      go_wp2_with fail
      go_ret2
      exact ⟨rfl, HUP.out _ HBr.out⟩

theorem sch_Width (xs : List Nd) (A : Option Addr) (cap : Nat) (w : World) (hm : xs.length ≤ 1099511627776) :
    Calls Try.prog 11 #[vS A xs cap] w fun e w' => e = .returned (.int .i64 (((xs.length : Int) + 63) / 64)) ∧ Below w.heap.size w w' := by
  obtain ⟨w1, hw1, b1, S⟩ := iblk1 w 24 #[.slice A xs.length cap]
  have HS := Lib.hid S
  have p0 := sblk b1
  clear S b1
  unfold vS
  generalize xs.length = m at *
  go_enter Try.func11, Try.ntmps11
  go_wp2_with fail
  go_ret
  exact ⟨ret_num (by omega), HS.out⟩
end Go.Proofs.Ytgbbgdjdomkohaa

/- Package utf: the calls as a law meets them; the document's example. -/
namespace Go.Proofs.Ytgbbgdjdomkohaa
open Go.RowKit

/-- Where a text goes wrong. -/
theorem uat_cases (q : UQ) (l : List Int) (hq : q.wr = false) : (uat q l 0 = -1 ∧ ∀ k, k ≤ l.length → (ust q l k).wr = false) ∨ ∃ k, k < l.length ∧ uat q l 0 = k ∧ (ust q l k).wr = false ∧ (ust q l (k + 1)).wr = true := by
  by_cases h : ∀ k, k ≤ l.length → (ust q l k).wr = false
  · exact Or.inl ⟨uat_none h, h⟩
  · right
    have : ∀ n, n ≤ l.length → (∀ k, k ≤ n → (ust q l k).wr = false) ∨ ∃ k, k < n ∧ (ust q l k).wr = false ∧ (ust q l (k + 1)).wr = true := by
      intro n
      induction n with
      | zero => intro _; left; intro k hk; rw [show k = 0 by omega]; exact hq
      | succ n ih =>
        intro hn
        rcases ih (by omega) with h1 | ⟨k, h1, h2, h3⟩
        · cases hw : (ust q l (n + 1)).wr with
          | true => exact Or.inr ⟨n, by omega, h1 n (Nat.le_refl _), hw⟩
          | false =>
            left
            intro k hk
            by_cases hkn : k ≤ n
            · exact h1 k hkn
            · rw [show k = n + 1 by omega]; exact hw
        · exact Or.inr ⟨k, by omega, h2, h3⟩
    rcases this l.length (Nat.le_refl _) with h1 | ⟨k, h1, h2, h3⟩
    · exact absurd h1 h
    · exact ⟨k, h1, uat_some k h1 h2 h3, h2, h3⟩
theorem ust_append (q : UQ) (a b : List Int) (k : Nat) (hk : k ≤ a.length) : ust q (a ++ b) k = ust q a k := by
  unfold ust
  rw [List.take_append_of_le_length hk]
theorem done_from (q : UQ) (b : List Int) (h0 : q.left = 0) (hw : q.wr = false) : udone (urun q b) = udone (urun uq0 b) := by
  cases b with
  | nil =>
    show udone q = true
    unfold udone
    rw [hw, h0]
    rfl
  | cons c r =>
    show udone (urun (ustep q c) r) = udone (urun (ustep uq0 c) r)
    cases hm : umore c with
    | some n => rw [ustep_some h0 hw hm, ustep_some rfl rfl hm]
    | none =>
      have h1 := ustep_none h0 hw hm
      have h2 := ustep_none (q := uq0) rfl rfl hm
      rw [urun_wr _ _ h1, urun_wr _ _ h2, udone_wr h1, udone_wr h2]
theorem uok_append (a b : List Int) (h : uok uq0 a = true) : uok uq0 (a ++ b) = uok uq0 b := by
  unfold uok
  rw [urun_append]
  unfold uok udone at h
  simp only [Bool.and_eq_true, Bool.not_eq_true', beq_iff_eq] at h
  exact done_from _ _ h.2 h.1
theorem uat_append (a b : List Int) (h : 0 ≤ uat uq0 a 0) : uok uq0 (a ++ b) = false ∧ uat uq0 (a ++ b) 0 = uat uq0 a 0 := by
  rcases uat_cases uq0 a rfl with ⟨h1, _⟩ | ⟨k, h1, h2, h3, h4⟩
  · omega
  · have h3' : (ust uq0 (a ++ b) k).wr = false := by rw [ust_append _ _ _ _ (by omega)]; exact h3
    have h4' : (ust uq0 (a ++ b) (k + 1)).wr = true := by rw [ust_append _ _ _ _ (by omega)]; exact h4
    exact ⟨uok_wr (k := k + 1) (by simp; omega) h4', by rw [h2]; exact uat_some k (by simp; omega) h3' h4'⟩
theorem uat_ok (a : List Int) (h : uok uq0 a = true) : uat uq0 a 0 = -1 := by
  rcases uat_cases uq0 a rfl with ⟨h1, _⟩ | ⟨k, h1, h2, h3, h4⟩
  · exact h1
  · rw [uok_wr (k := k + 1) (by omega) h4] at h
    cases h
theorem uat_or (a : List Int) : uat uq0 a 0 = -1 ∨ ∃ k : Nat, uat uq0 a 0 = k := by
  rcases uat_cases uq0 a rfl with ⟨h1, _⟩ | ⟨k, _, h2, _, _⟩
  · exact Or.inl h1
  · exact Or.inr ⟨k, h2⟩
theorem sbytes_append (a b : ByteArray) : sbytes (a ++ b) = sbytes a ++ sbytes b := by simp [sbytes]
theorem sbytes_extract (s : ByteArray) (k : Nat) : sbytes (s.extract 0 k) = (sbytes s).take k := by
  simp [sbytes, List.map_take]

theorem awake_at : uat uq0 (sbytes ⟨#[97, 237, 160]⟩) 0 = 2 := by decide +kernel
theorem awake_ok : uok uq0 (sbytes ⟨#[97, 195, 169]⟩) = true := by decide +kernel
end Go.Proofs.Ytgbbgdjdomkohaa

/- The document's wrong: what is wrong of keys. -/
namespace Go.Proofs.Ytgbbgdjdomkohaa
open Go.RowKit

theorem keys_none {fs : List Fl} (h0 : ∀ j, j < fs.length → keyE fs j = 0) : keysN fs = 0 := firstE_all h0
theorem mem_keys {fs : List Fl} {k j : Nat} {x y : Fl} (hj : j < k) (hy : fs[j]? = some y) (e : y.key = x.key) : x.key ∈ (fs.take k).map Fl.key :=
  List.mem_map.2 ⟨y, List.mem_of_getElem? (i := j) (by rw [List.getElem?_take, if_pos hj]; exact hy), e⟩
theorem not_mem_keys {fs : List Fl} {k : Nat} {x : Fl} (h : ∀ j y, j < k → fs[j]? = some y → y.key ≠ x.key) : x.key ∉ (fs.take k).map Fl.key := fun hm => by
  obtain ⟨y, hy, e⟩ := List.mem_map.1 hm
  obtain ⟨j, hj⟩ := List.mem_iff_getElem?.1 hy
  rw [List.getElem?_take] at hj
  split at hj
  · exact h j y (by assumption) hj e
  · cases hj
theorem kinds11 {k : Int} (h : ¬ k < 0) (h' : ¬ 10 < k) : k = 0 ∨ k = 1 ∨ k = 2 ∨ k = 3 ∨ k = 4 ∨ k = 5 ∨ k = 6 ∨ k = 7 ∨ k = 8 ∨ k = 9 ∨ k = 10 := by omega

end Go.Proofs.Ytgbbgdjdomkohaa
