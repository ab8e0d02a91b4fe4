/- Package schema: checkOne, Check, Width. -/
import Derived.Test.YtjelgoeamaejmaaGreatKAY
import Derived.Test.YtjelgoeamaejmaaGreatKAZ
import Derived.Test.YtjelgoeamaejmaaGreatKAB
namespace Go.Proofs.YtjelgoeamaejmaaGreat
open Go.RowKit

/-- Bounds of a node. -/
structure okN (x : Nd) : Prop where
  v : okI 1048576 x.v
  f : okF 1048576 x.f
  lf : x.l.length + x.f.length ≤ 1099511627776
theorem any_none_of {l : List Int} {q : Int → Bool} (h : ∀ j, j < l.length → q (l.getD j 0) = false) : l.any q = false := by
  rw [Bool.eq_false_iff]
  intro ha
  obtain ⟨t, ht, hq⟩ := List.any_eq_true.1 ha
  obtain ⟨j, hj, rfl⟩ := List.mem_iff_getElem.1 ht
  have := h j hj
  rw [List.getD_eq_getElem?_getD, List.getElem?_eq_getElem hj] at this
  simp only [Option.getD_some] at this
  rw [this] at hq
  cases hq
theorem any_some_of {l : List Int} {q : Int → Bool} {j : Nat} (hj : j < l.length) (h : q (l.getD j 0) = true) : l.any q = true := by
  refine List.any_eq_true.2 ⟨l[j], List.getElem_mem hj, ?_⟩
  rw [List.getD_eq_getElem?_getD, List.getElem?_eq_getElem hj] at h
  exact h
theorem length_namedN (x : Nd) : (namedN x).length = x.l.length + x.f.length := by simp [namedN]

set_option maxRecDepth 100000 in
set_option maxHeartbeats 4000000 in
theorem sch_checkOne (x : Nd) (p : Pl) (n : Nat) (i m : Int) (w : World) (hn : n ≤ w.heap.size) (hx : NdB w n x p) (ho : okN x) :
    Calls Tryz.prog 31 #[vN x p, .int .i64 i, .int .i64 m] w fun e w' => e = .returned (.int .i64 (wrongN chI x i m)) ∧ Below w.heap.size w w' := by
  have b1 := Blk.fresh w 47 (nc x p)
  have S := below_alloc w (.cells (nc x p) 47)
  obtain ⟨w1, hw1⟩ : ∃ w1, w.alloc (.cells (nc x p) 47) = w1 := ⟨_, rfl⟩
  rw [hw1] at b1 S
  have hsz := ho.lf
  have hnd := length_namedN x
  have C1 := fun (hk : 0 ≤ x.k) (hk' : x.k ≤ 10) W (hW : Below w.heap.size w W) => sch_formed x p n W (Nat.le_trans hn hW.size) (hx.keep (hW.mono hn)) ho.v (by omega) (by omega) hk hk'
  have C2 := fun W => sch_ranged x p W
  have C3 := fun W (hW : Below w.heap.size w W) => sch_checkKeys x.f p.Af p.cf n W (Nat.le_trans hn hW.size) (hx.f.keep (hW.mono hn)) ho.f (by omega)
  have C4 := fun W (hW : Below w.heap.size w W) => sch_Named x p n W (Nat.le_trans hn hW.size) (hx.keep (hW.mono hn)) ho.lf
  have HW : Hid (wrongN chI x i m = if x.k < 0 ∨ 10 < x.k then 18 else if formN chI x = false then 11 else if rangedN x = false then 15 else if keysN x.f ≠ 0 then keysN x.f else if (namedN x).any (nameB i m) then 13 else 0) := Lib.hid rfl
  generalize wrongN chI x i m = res at *
  generalize formN chI x = r1 at *
  generalize rangedN x = r2 at *
  generalize keysN x.f = r3 at *
  generalize namedN x = L at *
  have HC1 := Lib.hid C1
  have HC2 := Lib.hid C2
  have HC3 := Lib.hid C3
  have HC4 := Lib.hid C4
  have HB := Lib.hid b1
  have HS := Lib.hid S
  have HUP : Hid (∀ W, Below w1.heap.size w1 W → Below w.heap.size w W) := Lib.hid fun W hW => S.trans (hW.mono S.size)
  have HLN : Hid (L.length ≤ 1099511627776) := Lib.hid (by omega)
  unfold nc at b1 hw1 HB
  obtain ⟨p0, p1, p2, p3, p4, p5, p6, p7, p8⟩ := nblk b1
  clear C1 C2 C3 C4 b1 S hn hx ho hsz hnd
  simp only [vN] at HC1 HC2 HC4 ⊢
  go_enter Tryz.func31, Tryz.ntmps31
  by_cases hk : x.k < 0 ∨ 10 < x.k
  · have HR : Hid (res = 18) := Lib.hid (by rw [HW.out, if_pos hk])
    go_wp2_with fail
    all_goals first
      | (go_ret; exact ⟨by rw [HR.out]; rfl, HS.out⟩)
      | (exfalso; omega)
  have hk1 : ¬ x.k < 0 := fun h => hk (.inl h)
  have hk2 : ¬ 10 < x.k := fun h => hk (.inr h)
  have HC1' := Lib.hid (HC1.out (by omega) (by omega))
  have HW' := Lib.hid ((HW.out).trans (if_neg hk))
  clear hk HC1 HW
  cases r1 with
  | false =>
    have HR : Hid (res = 11) := Lib.hid (by rw [HW'.out]; rfl)
    go_wp2_with (first
      | (go_at_call 41; refine (HC1'.out _ HS.out).mono ?_; rintro e w2 ⟨rfl, hb2⟩; have HB2 := Lib.hid hb2; clear hb2)
      | fail)
    go_ret
    exact ⟨by rw [HR.out]; rfl, HUP.out _ HB2.out⟩
  | true =>
  cases r2 with
  | false =>
    have HR : Hid (res = 15) := Lib.hid (by rw [HW'.out]; rfl)
    go_wp2_with (first
      | (go_at_call 41; refine (HC1'.out _ HS.out).mono ?_; rintro e w2 ⟨rfl, hb2⟩; obtain ⟨s0, s1, s2, s3, s4, s5, s6, s7, s8⟩ := nblk (HB.out.on hb2); have HB2 := Lib.hid hb2; clear hb2)
      | (go_at_call 42; refine (HC2.out _).mono ?_; rintro e w3 ⟨rfl, hb3⟩; have HB3 := Lib.hid (HB2.out.trans (hb3.mono HB2.out.size)); clear hb3)
      | fail)
    go_ret
    exact ⟨by rw [HR.out]; rfl, HUP.out _ HB3.out⟩
  | true =>
  by_cases h3 : r3 = 0
  · subst h3
    have HR : Hid (res = if L.any (nameB i m) then 13 else 0) := Lib.hid (by rw [HW'.out]; rfl)
    go_wp2_with (first
      | (go_at_call 41; refine (HC1'.out _ HS.out).mono ?_; rintro e w2 ⟨rfl, hb2⟩; obtain ⟨s0, s1, s2, s3, s4, s5, s6, s7, s8⟩ := nblk (HB.out.on hb2); have HB2 := Lib.hid hb2; clear hb2)
      | (go_at_call 42; refine (HC2.out _).mono ?_; rintro e w3 ⟨rfl, hb3⟩; have HB3 := Lib.hid (HB2.out.trans (hb3.mono HB2.out.size)); obtain ⟨t0, t1, t2, t3, t4, t5, t6, t7, t8⟩ := nblk (HB.out.on HB3.out); clear hb3)
      | (go_at_call 43; refine (HC3.out _ (HUP.out _ HB3.out)).mono ?_; rintro e w4 ⟨rfl, hb4⟩; have HB4 := Lib.hid (HB3.out.trans (hb4.mono HB3.out.size)); obtain ⟨u0, u1, u2, u3, u4, u5, u6, u7, u8⟩ := nblk (HB.out.on HB4.out); clear hb4)
      | (go_at_call 44; refine (HC4.out _ (HUP.out _ HB4.out)).mono ?_; rintro e w5 ⟨⟨v, rfl, hO⟩, hb5⟩; obtain ⟨A, cap, rfl, hle, -, hnil, -, hrd⟩ := hO.form; have HRD := Lib.hid hrd; have HB5 := Lib.hid (HB4.out.trans (hb5.mono HB4.out.size)); clear hb5 hO hrd hle hnil)
      | fail)
    clear p0 p1 p2 p3 p4 p5 p6 p7 p8 s0 s1 s2 s3 s4 s5 s6 s7 s8 t0 t1 t2 t3 t4 t5 t6 t7 t8 u0 u1 u2 u3 u4 u5 u6 u7 u8 hw1
    obtain ⟨q, hq⟩ : ∃ q, L.length = q := ⟨_, rfl⟩
    have HQ := Lib.hid hq
    rw [hq] at HLN ⊢
    have hqb : (q : Int) ≤ 1099511627776 := by have := HLN.out; omega
    clear hq HLN
    go_loopw [36] (fun v wr => ∃ k : Nat, k ≤ q ∧ v = .int .i64 (k : Int) ∧ wr = w5 ∧ Hid (∀ j, j < k → nameB i m (L.getD j 0) = false)) (fun v _ => q - (intOf v).toNat)
    case atStart => exact ⟨0, by omega, rfl, rfl, Lib.hid fun j hj => absurd hj (by omega)⟩
    case round =>
      obtain ⟨k, hk, rfl, rfl, HE⟩ := hrel
      by_cases hlt : k < q
      · obtain ⟨b, o, rfl, -, c0⟩ := HRD.out.get (i := k) (by rw [HQ.out]; exact hlt)
        obtain ⟨t, ht⟩ : ∃ t, L.getD k 0 = t := ⟨_, rfl⟩
        rw [ht] at c0
        have HT := Lib.hid ht
        clear ht
        by_cases h1 : t ≤ i
        · have HF : Hid (res = 13) := Lib.hid (by rw [HR.out, if_pos (any_some_of (j := k) (by rw [HQ.out]; exact hlt) (by rw [HT.out]; simp [nameB, h1]))])
          go_wp2_with fail
          go_ret
          exact ⟨by rw [HF.out]; rfl, HUP.out _ HB5.out⟩
        · by_cases h2 : m ≤ t
          · have HF : Hid (res = 13) := Lib.hid (by rw [HR.out, if_pos (any_some_of (j := k) (by rw [HQ.out]; exact hlt) (by rw [HT.out]; simp [nameB, h2]))])
            go_wp2_with fail
            go_ret
            exact ⟨by rw [HF.out]; rfl, HUP.out _ HB5.out⟩
          · have HN : Hid (nameB i m (L.getD k 0) = false) := Lib.hid (by rw [HT.out]; simp [nameB]; omega)
            go_wp2_with fail
            go_roundw
            case rel => exact ⟨k + 1, by omega, by simp, trivial, Lib.hid fun j hj => by
              by_cases e : j = k
              · rw [e]; exact HN.out
              · exact HE.out j (by omega)⟩
            case measure => simp [intOf]; omega
      · obtain rfl : k = q := by omega
        have HF : Hid (res = 0) := Lib.hid (by rw [HR.out, any_none_of (by rw [HQ.out]; exact HE.out)]; rfl)
        go_wp2_with fail
        go_ret
        exact ⟨by rw [HF.out]; rfl, HUP.out _ HB5.out⟩
  · have HR : Hid (res = r3) := Lib.hid (by rw [HW'.out, if_neg (by decide), if_neg (by decide), if_pos h3])
    have e3 : (r3 != 0) = true := by simp [h3]
    clear h3
    go_wp2_with (first
      | (go_at_call 41; refine (HC1'.out _ HS.out).mono ?_; rintro e w2 ⟨rfl, hb2⟩; obtain ⟨s0, s1, s2, s3, s4, s5, s6, s7, s8⟩ := nblk (HB.out.on hb2); have HB2 := Lib.hid hb2; clear hb2)
      | (go_at_call 42; refine (HC2.out _).mono ?_; rintro e w3 ⟨rfl, hb3⟩; have HB3 := Lib.hid (HB2.out.trans (hb3.mono HB2.out.size)); obtain ⟨t0, t1, t2, t3, t4, t5, t6, t7, t8⟩ := nblk (HB.out.on HB3.out); clear hb3)
      | (go_at_call 43; refine (HC3.out _ (HUP.out _ HB3.out)).mono ?_; rintro e w4 ⟨rfl, hb4⟩; have HB4 := Lib.hid (HB3.out.trans (hb4.mono HB3.out.size)); clear hb4)
      | fail)
    go_ret
    exact ⟨by rw [HR.out]; rfl, HUP.out _ HB4.out⟩
end Go.Proofs.YtjelgoeamaejmaaGreat

/- Results of several kinds. -/
namespace Go.Proofs.YtjelgoeamaejmaaGreat
open Go.RowKit

theorem results_tmp3 {fn : Func} {t u v : Tmp} (h : fn.results = #[.tmp t, .tmp u, .tmp v]) (tmps : Array Value) (P : Program) (w : World) :
    (results fn tmps).run P w = .ok (.tuple #[tmps.getD t undef, tmps.getD u undef, tmps.getD v undef]) w := by
  simp [results, h]
theorem results_tmp6 {fn : Func} {t u v x y z : Tmp} (h : fn.results = #[.tmp t, .tmp u, .tmp v, .tmp x, .tmp y, .tmp z]) (tmps : Array Value) (P : Program) (w : World) :
    (results fn tmps).run P w = .ok (.tuple #[tmps.getD t undef, tmps.getD u undef, tmps.getD v undef, tmps.getD x undef, tmps.getD y undef, tmps.getD z undef]) w := by
  simp [results, h]
/-- A struct in memory ahead of two numbers. -/
theorem results_blk3 {P : Program} {fn : Func} {p a b : Tmp} {ty : TypeId} (h : fn.results = #[.cell p ty, .tmp a, .tmp b]) (tmps : Array Value) {w : World} {g : Nat} {t : TypeId} {cs : Array Value} {d : TypeDesc} (hp : tmps.getD p undef = .pointer (some ⟨g, 0, none⟩))
    (hg : Blk w g t cs) (hu : P.underlying ty = some d) (hd : d.isRow = true) (hi : (P.info? ty).map (·.size) = some cs.size) :
    (results fn tmps).run P w = .ok (.tuple #[.agg cs, tmps.getD a undef, tmps.getD b undef]) w := by
  have hp' : tmps[p]?.getD undef = .pointer (some ⟨g, 0, none⟩) := by simpa using hp
  have hl := run_loadVar_row w g t ty cs (0, 0) d hg hu (by cases d <;> simp_all [TypeDesc.isRow]) hi
  simp [results, h, hp', asAddr, hl]
/-- A struct in memory ahead of one. -/
theorem results_blk2 {P : Program} {fn : Func} {p a : Tmp} {ty : TypeId} (h : fn.results = #[.cell p ty, .tmp a]) (tmps : Array Value) {w : World} {g : Nat} {t : TypeId} {cs : Array Value} {d : TypeDesc} (hp : tmps.getD p undef = .pointer (some ⟨g, 0, none⟩))
    (hg : Blk w g t cs) (hu : P.underlying ty = some d) (hd : d.isRow = true) (hi : (P.info? ty).map (·.size) = some cs.size) :
    (results fn tmps).run P w = .ok (.tuple #[.agg cs, tmps.getD a undef]) w := by
  have hp' : tmps[p]?.getD undef = .pointer (some ⟨g, 0, none⟩) := by simpa using hp
  have hl := run_loadVar_row w g t ty cs (0, 0) d hg hu (by cases d <;> simp_all [TypeDesc.isRow]) hi
  simp [results, h, hp', asAddr, hl]
end Go.Proofs.YtjelgoeamaejmaaGreat

/- Package schema: Check, Width. -/
namespace Go.Proofs.YtjelgoeamaejmaaGreat
open Go.RowKit

theorem checkE_bad {ch : It → Int} {xs : List Nd} (h : xs.length < 1 ∨ 256 < xs.length) : checkE ch xs = 16 ∧ checkI ch xs = 0 := ⟨by rw [checkE, if_pos h], by rw [checkI, if_pos h]⟩
theorem checkE_at {ch : It → Int} {xs : List Nd} {k : Nat} {x : Nd} (h : ¬ (xs.length < 1 ∨ 256 < xs.length)) (h0 : ∀ j, j < k → errN ch xs j = 0) (hx : xs[k]? = some x) (he : wrongN ch x k xs.length ≠ 0) : checkE ch xs = wrongN ch x k xs.length ∧ checkI ch xs = k := by
  have hk := (List.getElem?_eq_some_iff.1 hx).1
  have e := errN_some (ch := ch) hx
  exact ⟨by rw [checkE, if_neg h, firstE_at hk h0 (by rw [e]; exact he), e], by rw [checkI, if_neg h, firstI_at hk h0 (by rw [e]; exact he)]⟩
theorem checkE_all {ch : It → Int} {xs : List Nd} (h : ¬ (xs.length < 1 ∨ 256 < xs.length)) (h0 : ∀ j, j < xs.length → errN ch xs j = 0) : checkE ch xs = 0 ∧ checkI ch xs = 0 :=
  ⟨by rw [checkE, if_neg h, firstE_all h0], by rw [checkI, if_neg h, firstI_all h0]⟩
/-- A block of one cell. -/
theorem sblk {w : World} {g : Nat} {t : TypeId} {a : Value} (h : Blk w g t #[a]) : w.cell? ⟨g, 0, none⟩ = some a := by rw [h.cell]; rfl

set_option maxRecDepth 100000 in
set_option maxHeartbeats 4000000 in
theorem sch_Check (xs : List Nd) (A : Option Addr) (cap n : Nat) (w : World) (hn : n ≤ w.heap.size) (hx : RdN w n A xs) (ho : ∀ x ∈ xs, okN x) (hm : xs.length ≤ 1099511627776) :
    Calls Tryz.prog 19 #[vS A xs cap] w fun e w' => e = .returned (.tuple #[.int .i64 (checkI chI xs : Nat), .int .i64 (checkE chI xs)]) ∧ Below w.heap.size w w' := by
  obtain ⟨w1, hw1, b1, S⟩ := iblk1 w 24 #[.slice A xs.length cap]
  have HF : Hid (∀ W, Below w.heap.size w W → RdN W n A xs) := Lib.hid fun W hW => hx.keep (hW.mono hn)
  have HOK := Lib.hid ho
  have HN := Lib.hid hn
  have HB := Lib.hid b1
  have HS := Lib.hid S
  have p0 := sblk b1
  have HUP : Hid (∀ W, Below w1.heap.size w1 W → Below w.heap.size w W) := Lib.hid fun W hW => S.trans (hW.mono S.size)
  obtain ⟨m, hml⟩ : ∃ m, xs.length = m := ⟨_, rfl⟩
  have HM := Lib.hid hml
  rw [hml] at p0 hw1 hm HB
  unfold vS
  rw [hml]
  clear b1 S hx hn ho hml
  obtain ⟨ri, hri⟩ : ∃ ri : Int, ((checkI chI xs : Nat) : Int) = ri := ⟨_, rfl⟩
  obtain ⟨re, hre⟩ : ∃ re, checkE chI xs = re := ⟨_, rfl⟩
  rw [hri, hre]
  have HRI := Lib.hid hri
  have HRE := Lib.hid hre
  clear hri hre
  have HSET : Hid (∀ a b, checkE chI xs = a ∧ checkI chI xs = b → re = a ∧ ri = (b : Int)) := Lib.hid fun a b h => ⟨HRE.out.symm.trans h.1, HRI.out.symm.trans (by rw [h.2])⟩
  clear HRI HRE
  go_enter Tryz.func19, Tryz.ntmps19
  by_cases hb : m < 1 ∨ 256 < m
  · obtain ⟨rfl, rfl⟩ := HSET.out _ _ (checkE_bad (ch := chI) (by rw [HM.out]; exact hb))
    rcases hb with hb | hb
    · have e1 : (m : Int) < 1 := by omega
      clear hb
      go_wp2_with fail
      go_ret2
      exact ⟨rfl, HS.out⟩
    · have e1 : ¬ (m : Int) < 1 := by omega
      have e2 : (256 : Int) < m := by omega
      clear hb
      go_wp2_with fail
      go_ret2
      exact ⟨rfl, HS.out⟩
  have e1 : ¬ (m : Int) < 1 := by omega
  have e2 : ¬ (256 : Int) < m := by omega
  have HBAD : Hid (¬ (xs.length < 1 ∨ 256 < xs.length)) := Lib.hid (by rw [HM.out]; exact hb)
  clear hb
  go_wp2_with fail
  clear e1 e2
  go_loopw [20] (fun i wr => ∃ k : Nat, k ≤ m ∧ i = .int .i64 (k : Int) ∧ Hid (Below w1.heap.size w1 wr) ∧ Hid (∀ j, j < k → errN chI xs j = 0)) (fun i _ => m - (intOf i).toNat)
  case atStart => exact ⟨0, by omega, rfl, Lib.hid (Below.refl _ _), Lib.hid fun j hj => absurd hj (by omega)⟩
  case round =>
    obtain ⟨k, hk, rfl, HBr, HE⟩ := hrel
    by_cases hlt : k < m
    · obtain ⟨b, o, x, p, rfl, hbn, hbw, X, mX, hnd, c0, c1, c2, c3, c4, c5, c6, c7, c8⟩ := (HF.out wr (HUP.out _ HBr.out)).get (i := k) (by rw [HM.out]; exact hlt)
      have hox := HOK.out x mX
      have hnr : n ≤ wr.heap.size := Nat.le_trans HN.out (HUP.out _ HBr.out).size
      have HCH := Lib.hid (fun W (hW : Below wr.heap.size wr W) => sch_checkOne x p n (k : Int) (m : Int) W (Nat.le_trans hnr hW.size) (hnd.keep (hW.mono hnr)) hox)
      have HX := Lib.hid X
      have HBK : Hid (∀ W, Below (wr.alloc (.cells (nc x p) 47)).heap.size (wr.alloc (.cells (nc x p) 47)) W → Below w1.heap.size w1 W) := Lib.hid fun W hb => (HBr.out.trans ((below_alloc wr _).mono HBr.out.size)).trans (hb.mono (Nat.le_trans HBr.out.size (below_alloc wr _).size))
      have HAL := Lib.hid (below_alloc wr (.cells (nc x p) 47))
      have HSB : Hid (∀ W, Below w1.heap.size w1 W → W.cell? ⟨w.heap.size, 0, none⟩ = some (.slice (some ⟨b, o, none⟩) m cap)) := Lib.hid fun W hb => sblk (HB.out.on hb)
      have s0 := HSB.out _ HBr.out
      have s1 := HSB.out _ (HBr.out.trans ((below_alloc wr (.cells (nc x p) 47)).mono HBr.out.size))
      clear X mX hnd hox hnr hbn hbw
      obtain ⟨r, hr⟩ : ∃ r, wrongN chI x k m = r := ⟨_, rfl⟩
      rw [hr] at HCH
      have HR := Lib.hid hr
      clear hr
      unfold nc at HBK HAL s1
      simp only [vN] at HCH
      by_cases h0 : r = 0
      · subst h0
        have HNX : Hid (errN chI xs k = 0) := Lib.hid (by rw [errN_some HX.out, HM.out]; exact HR.out)
        go_wp2_with (first
          | (go_at_call 31; refine (HCH.out _ HAL.out).mono ?_; rintro e w4 ⟨rfl, hb4⟩; have HB4 := Lib.hid (HBK.out _ hb4); clear hb4)
          | fail)
        go_roundw
        case rel => exact ⟨k + 1, by omega, by simp, HB4, Lib.hid fun j hj => by
          by_cases e : j = k
          · rw [e]; exact HNX.out
          · exact HE.out j (by omega)⟩
        case measure => simp [intOf]; omega
      · obtain ⟨rfl, rfl⟩ := HSET.out _ _ (by have := checkE_at (ch := chI) HBAD.out HE.out HX.out (by rw [HM.out, HR.out]; exact h0); rw [HM.out, HR.out] at this; exact this)
        have e3 : (re != 0) = true := by simp [h0]
        clear h0
        go_wp2_with (first
          | (go_at_call 31; refine (HCH.out _ HAL.out).mono ?_; rintro e w4 ⟨rfl, hb4⟩; have HB4 := Lib.hid (HBK.out _ hb4); clear hb4)
          | fail)
        go_ret2
        exact ⟨rfl, HUP.out _ HB4.out⟩
    · obtain rfl : k = m := by omega
      obtain ⟨rfl, rfl⟩ := HSET.out _ _ (checkE_all (ch := chI) HBAD.out (by rw [HM.out]; exact HE.out))
      go_wp2_with fail
      go_ret2
      exact ⟨rfl, HUP.out _ HBr.out⟩

end Go.Proofs.YtjelgoeamaejmaaGreat

/- Package denote: Number, within; which items match a node by itself. -/
namespace Go.Proofs.YtjelgoeamaejmaaGreat
open Go.RowKit

/-- An item's number, if it has one that fits. -/
def numR (k n : Int) : Int × Bool := if 9223372036854775807 < n then (0, false) else if k = 0 then (n, true) else if k = 1 then (-1 - n, true) else (0, false)
theorem numR_great {k n : Int} (h : 9223372036854775807 < n) : numR k n = (0, false) := by unfold numR; rw [if_pos h]
theorem numR_zero {n : Int} (h : ¬ 9223372036854775807 < n) : numR 0 n = (n, true) := by unfold numR; rw [if_neg h, if_pos rfl]
theorem numR_one {n : Int} (h : ¬ 9223372036854775807 < n) : numR 1 n = (-1 - n, true) := by unfold numR; rw [if_neg h, if_neg (by decide), if_pos rfl]
theorem numR_other {k n : Int} (h0 : ¬ k = 0) (h1 : ¬ k = 1) : numR k n = (0, false) := by
  unfold numR
  rw [if_neg h0, if_neg h1]
  split <;> rfl
def inR (z lo hi : Int) : Bool := decide (lo ≤ z) && decide (z ≤ hi)
set_option maxRecDepth 100000 in
set_option maxHeartbeats 1000000 in
theorem den_Number (k n : Int) (s : ByteArray) (A : Option Addr) (m cap : Nat) (w : World) (h0 : 0 ≤ n) :
    Calls Tryz.prog 16 #[.agg #[.int .i64 k, .int .u64 n, .string s, .slice A m cap]] w fun e w' => e = .returned (.tuple #[.int .i64 (numR k n).1, .bool (numR k n).2]) ∧ Below w.heap.size w w' := by
  obtain ⟨w1, hw1, b1, S⟩ := iblk1 w 28 #[.int .i64 k, .int .u64 n, .string s, .slice A m cap]
  obtain ⟨p0, p1, p2, p3, -⟩ := iblk b1
  have HS := Lib.hid S
  clear S b1
  by_cases hg : 9223372036854775807 < n
  · rw [numR_great hg]
    go_enter Tryz.func16, Tryz.ntmps16
    go_wp2_with fail
    go_ret2
    exact ⟨rfl, HS.out⟩
  · have e1 : wrap64 n = n := by unfold wrap64; omega
    have e2 : wrap64 (-1 - n) = -1 - n := by unfold wrap64; omega
    by_cases h1 : k = 0
    · subst h1
      rw [numR_zero (by omega)]
      go_enter Tryz.func16, Tryz.ntmps16
      go_wp2_with fail
      go_ret2
      exact ⟨rfl, HS.out⟩
    · by_cases h2 : k = 1
      · subst h2
        rw [numR_one (by omega)]
        go_enter Tryz.func16, Tryz.ntmps16
        go_wp2_with fail
        go_ret2
        exact ⟨rfl, HS.out⟩
      · rw [numR_other h1 h2]
        go_enter Tryz.func16, Tryz.ntmps16
        go_wp2_with fail
        go_ret2
        exact ⟨rfl, HS.out⟩
set_option maxRecDepth 100000 in
set_option maxHeartbeats 1000000 in
theorem den_within (z : Int) (x : Nd) (p : Pl) (w : World) :
    Calls Tryz.prog 75 #[.int .i64 z, vN x p] w fun e w' => e = .returned (.bool (inR z x.lo x.hi)) ∧ Below w.heap.size w w' := by
  obtain ⟨w1, hw1, b1, S⟩ := iblk1 w 47 (nc x p)
  unfold nc at b1 hw1
  obtain ⟨p0, p1, p2, p3, p4, p5, p6, p7, p8⟩ := nblk b1
  have HS := Lib.hid S
  have HR : Hid (∀ r, r = (decide (x.lo ≤ z) && decide (z ≤ x.hi)) → r = inR z x.lo x.hi) := Lib.hid fun r h => h
  generalize inR z x.lo x.hi = res at *
  clear S b1
  simp only [vN]
  go_enter Tryz.func75, Tryz.ntmps75
  go_wp2_with fail
  all_goals go_ret
  all_goals exact ⟨by rw [← HR.out _ rfl]; clear HR HS p0 p1 p2 p3 p4 p5 p6 p7 p8 hw1; simp_all <;> first | rfl | omega, HS.out⟩
/-- Does an item match a node that names no other (of a number, bytes, a text)? -/
def loneR (k lo hi : Int) (x : It) : Bool :=
  if k = 1 then (numR x.k x.n).2 && inR (numR x.k x.n).1 lo hi else if k = 2 then decide (x.k = 2) && inR x.s.size lo hi else decide (x.k = 3) && inR x.s.size lo hi
set_option maxRecDepth 100000 in
set_option maxHeartbeats 1000000 in
theorem den_alone1 (lo hi : Int) (v : It) (l : List Int) (f : List Fl) (p : Pl) (t : It) (A : Option Addr) (cap : Nat) (w : World) (hn : 0 ≤ t.n) :
    Calls Tryz.prog 62 #[vN ⟨1, lo, hi, v, l, f⟩ p, vI t A cap] w fun e w' => e = .returned (.bool (loneR 1 lo hi t)) ∧ Below w.heap.size w w' := by
  obtain ⟨w1, hw1, b1, b2, S⟩ : ∃ w1, (w.alloc (.cells #[.int .i64 1, .int .i64 lo, .int .i64 hi, .int .i64 v.k, .int .u64 v.n, .string v.s, .slice p.Av v.l.length p.cv, .slice p.Al l.length p.cl, .slice p.Af f.length p.cf] 47)).alloc (.cells #[.int .i64 t.k, .int .u64 t.n, .string t.s, .slice A t.l.length cap] 28) = w1 ∧ Blk w1 w.heap.size 47 _ ∧ Blk w1 (w.heap.size + 1) 28 _ ∧ Below w.heap.size w w1 :=
    ⟨_, rfl, (Blk.fresh _ _ _).alloc _, Blk.freshAt _ _ _ _ (by simp), (below_alloc w _).alloc (by simp) _⟩
  obtain ⟨p0, p1, p2, p3, p4, p5, p6, p7, p8⟩ := nblk b1
  obtain ⟨q0, q1, q2, q3, -⟩ := iblk b2
  have HS := Lib.hid S
  have HB1 := Lib.hid b1
  clear S b1 b2
  have HR : Hid (loneR 1 lo hi t = ((numR t.k t.n).2 && inR (numR t.k t.n).1 lo hi)) := Lib.hid (by unfold loneR; rw [if_pos rfl])
  have HNM := Lib.hid (den_Number t.k t.n t.s A t.l.length cap w1 hn)
  obtain ⟨⟨z, ok⟩, hz⟩ : ∃ r, numR t.k t.n = r := ⟨_, rfl⟩
  rw [hz] at HR HNM
  have HW := Lib.hid (fun W => den_within z ⟨1, lo, hi, v, l, f⟩ p W)
  dsimp only at HR HNM HW
  unfold vN at HW ⊢
  dsimp only at HW ⊢
  simp only [vI]
  generalize loneR 1 lo hi t = res at *
  generalize inR z lo hi = bb at *
  clear hz hn
  go_enter Tryz.func62, Tryz.ntmps62
  cases ok with
  | false =>
    go_wp2_with (first
      | (go_at_call 16; refine HNM.out.mono ?_; rintro e w2 ⟨rfl, hb2⟩; have HB2 := Lib.hid hb2; clear hb2)
      | fail)
    go_ret
    exact ⟨by rw [HR.out]; rfl, HS.out.trans (HB2.out.mono HS.out.size)⟩
  | true =>
    go_wp2_with (first
      | (go_at_call 16; refine HNM.out.mono ?_; rintro e w2 ⟨rfl, hb2⟩; obtain ⟨s0, s1, s2, s3, s4, s5, s6, s7, s8⟩ := nblk (HB1.out.on hb2); have HB2 := Lib.hid hb2; clear hb2)
      | (go_at_call 75; refine (HW.out _).mono ?_; rintro e w3 ⟨rfl, hb3⟩; have HB3 := Lib.hid hb3; clear hb3)
      | fail)
    go_ret
    exact ⟨by rw [HR.out]; simp, (HS.out.trans (HB2.out.mono HS.out.size)).trans (HB3.out.mono (HS.out.trans (HB2.out.mono HS.out.size)).size)⟩
set_option maxRecDepth 100000 in
set_option maxHeartbeats 1000000 in
theorem den_alone2 (lo hi : Int) (v : It) (l : List Int) (f : List Fl) (p : Pl) (t : It) (A : Option Addr) (cap : Nat) (w : World) :
    Calls Tryz.prog 62 #[vN ⟨2, lo, hi, v, l, f⟩ p, vI t A cap] w fun e w' => e = .returned (.bool (loneR 2 lo hi t)) ∧ Below w.heap.size w w' := by
  obtain ⟨w1, hw1, b1, b2, S⟩ : ∃ w1, (w.alloc (.cells #[.int .i64 2, .int .i64 lo, .int .i64 hi, .int .i64 v.k, .int .u64 v.n, .string v.s, .slice p.Av v.l.length p.cv, .slice p.Al l.length p.cl, .slice p.Af f.length p.cf] 47)).alloc (.cells #[.int .i64 t.k, .int .u64 t.n, .string t.s, .slice A t.l.length cap] 28) = w1 ∧ Blk w1 w.heap.size 47 _ ∧ Blk w1 (w.heap.size + 1) 28 _ ∧ Below w.heap.size w w1 :=
    ⟨_, rfl, (Blk.fresh _ _ _).alloc _, Blk.freshAt _ _ _ _ (by simp), (below_alloc w _).alloc (by simp) _⟩
  obtain ⟨p0, p1, p2, p3, p4, p5, p6, p7, p8⟩ := nblk b1
  obtain ⟨q0, q1, q2, q3, -⟩ := iblk b2
  have HS := Lib.hid S
  have HB1 := Lib.hid b1
  clear S b1 b2
  have HR : Hid (loneR 2 lo hi t = (decide (t.k = 2) && inR t.s.size lo hi)) := Lib.hid (by unfold loneR; rw [if_neg (by decide), if_pos rfl])
  have HW := Lib.hid (fun W => den_within (t.s.size : Int) ⟨2, lo, hi, v, l, f⟩ p W)
  unfold vN at HW ⊢
  try dsimp only at HW ⊢
  simp only [vI]
  generalize loneR 2 lo hi t = res at *
  generalize inR (t.s.size : Int) lo hi = bb at *
  go_enter Tryz.func62, Tryz.ntmps62
  by_cases hk : t.k = 2
  · rw [hk] at hw1 q0
    go_wp2_with (first
      | (go_at_call 75; refine (HW.out _).mono ?_; rintro e w3 ⟨rfl, hb3⟩; have HB3 := Lib.hid hb3; clear hb3)
      | fail)
    go_ret
    exact ⟨by rw [HR.out]; simp [hk], HS.out.trans (HB3.out.mono HS.out.size)⟩
  · go_wp2_with fail
    go_ret
    exact ⟨by rw [HR.out]; simp [hk], HS.out⟩
set_option maxRecDepth 100000 in
set_option maxHeartbeats 1000000 in
theorem den_alone3 (lo hi : Int) (v : It) (l : List Int) (f : List Fl) (p : Pl) (t : It) (A : Option Addr) (cap : Nat) (w : World) :
    Calls Tryz.prog 62 #[vN ⟨3, lo, hi, v, l, f⟩ p, vI t A cap] w fun e w' => e = .returned (.bool (loneR 3 lo hi t)) ∧ Below w.heap.size w w' := by
  obtain ⟨w1, hw1, b1, b2, S⟩ : ∃ w1, (w.alloc (.cells #[.int .i64 3, .int .i64 lo, .int .i64 hi, .int .i64 v.k, .int .u64 v.n, .string v.s, .slice p.Av v.l.length p.cv, .slice p.Al l.length p.cl, .slice p.Af f.length p.cf] 47)).alloc (.cells #[.int .i64 t.k, .int .u64 t.n, .string t.s, .slice A t.l.length cap] 28) = w1 ∧ Blk w1 w.heap.size 47 _ ∧ Blk w1 (w.heap.size + 1) 28 _ ∧ Below w.heap.size w w1 :=
    ⟨_, rfl, (Blk.fresh _ _ _).alloc _, Blk.freshAt _ _ _ _ (by simp), (below_alloc w _).alloc (by simp) _⟩
  obtain ⟨p0, p1, p2, p3, p4, p5, p6, p7, p8⟩ := nblk b1
  obtain ⟨q0, q1, q2, q3, -⟩ := iblk b2
  have HS := Lib.hid S
  have HB1 := Lib.hid b1
  clear S b1 b2
  have HR : Hid (loneR 3 lo hi t = (decide (t.k = 3) && inR t.s.size lo hi)) := Lib.hid (by unfold loneR; rw [if_neg (by decide), if_neg (by decide)])
  have HW := Lib.hid (fun W => den_within (t.s.size : Int) ⟨3, lo, hi, v, l, f⟩ p W)
  unfold vN at HW ⊢
  try dsimp only at HW ⊢
  simp only [vI]
  generalize loneR 3 lo hi t = res at *
  generalize inR (t.s.size : Int) lo hi = bb at *
  go_enter Tryz.func62, Tryz.ntmps62
  by_cases hk : t.k = 3
  · rw [hk] at hw1 q0
    go_wp2_with (first
      | (go_at_call 75; refine (HW.out _).mono ?_; rintro e w3 ⟨rfl, hb3⟩; have HB3 := Lib.hid hb3; clear hb3)
      | fail)
    go_ret
    exact ⟨by rw [HR.out]; simp [hk], HS.out.trans (HB3.out.mono HS.out.size)⟩
  · go_wp2_with fail
    go_ret
    exact ⟨by rw [HR.out]; simp [hk], HS.out⟩
end Go.Proofs.YtjelgoeamaejmaaGreat
