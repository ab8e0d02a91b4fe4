/- Package schema: checkKeys. -/
import Derived.Test.YtmihoeholcaokaaKAP
import Derived.Test.YtmihoeholcaokaaKBE
import Derived.Test.YtmihoeholcaokaaKAZ
import Derived.Test.YtmihoeholcaokaaKBD
namespace Go.Proofs.Ytmihoeholcaokaa
open Go.RowKit

theorem keyE_ok {fs : List Fl} {k : Nat} {x : Fl} (h : fs[k]? = some x) (h1 : uok uq0 (sbytes x.key) = true) (h2 : ¬ 1021 < x.key.size) (h3 : x.key ∉ (fs.take k).map Fl.key) : keyE fs k = 0 := by
  rw [keyE_some h, if_neg (by simp [h1]), if_neg h2, if_neg h3]
theorem keys_utf {fs : List Fl} {k : Nat} {x : Fl} (h : fs[k]? = some x) (h0 : ∀ j, j < k → keyE fs j = 0) (h1 : uok uq0 (sbytes x.key) = false) : keysN fs = 6 := by
  have e : keyE fs k = 6 := by rw [keyE_some h, if_pos h1]
  have hk := (List.getElem?_eq_some_iff.1 h).1
  rw [keysN, firstE_at hk h0 (by rw [e]; decide), e]
theorem keys_len {fs : List Fl} {k : Nat} {x : Fl} (h : fs[k]? = some x) (h0 : ∀ j, j < k → keyE fs j = 0) (h1 : uok uq0 (sbytes x.key) = true) (h2 : 1021 < x.key.size) : keysN fs = 4 := by
  have e : keyE fs k = 4 := by rw [keyE_some h, if_neg (by simp [h1]), if_pos h2]
  have hk := (List.getElem?_eq_some_iff.1 h).1
  rw [keysN, firstE_at hk h0 (by rw [e]; decide), e]
theorem keys_twice {fs : List Fl} {k : Nat} {x : Fl} (h : fs[k]? = some x) (h0 : ∀ j, j < k → keyE fs j = 0) (h1 : uok uq0 (sbytes x.key) = true) (h2 : ¬ 1021 < x.key.size) (h3 : x.key ∈ (fs.take k).map Fl.key) : keysN fs = 14 := by
  have e : keyE fs k = 14 := by rw [keyE_some h, if_neg (by simp [h1]), if_neg h2, if_pos h3]
  have hk := (List.getElem?_eq_some_iff.1 h).1
  rw [keysN, firstE_at hk h0 (by rw [e]; decide), e]
/-- Keys are as long as a text can be. -/
def okF (N : Nat) (fs : List Fl) : Prop := ∀ x ∈ fs, x.key.size ≤ N

open Classical in
set_option maxRecDepth 100000 in
set_option maxHeartbeats 2000000 in
theorem sch_checkKeys (fs : List Fl) (A : Option Addr) (cap n : Nat) (w : World) (hn : n ≤ w.heap.size) (hx : RdF w n A fs) (hok : okF 1048576 fs) (hm : fs.length ≤ 1099511627776) :
    Calls Try.prog 27 #[.slice A fs.length cap] w fun e w' => e = .returned (.int .i64 (keysN fs)) ∧ Below w.heap.size w w' := by
  have hmm := @run_makeMap Try.prog
  have HF : Hid (∀ W, Below w.heap.size w W → RdF W n A fs) := Lib.hid fun W hW => hx.keep (hW.mono hn)
  have HOK := Lib.hid hok
  obtain ⟨m, hml⟩ : ∃ m, fs.length = m := ⟨_, rfl⟩
  rw [hml] at hm ⊢
  have HM := Lib.hid hml
  clear hx hn hok hml
  go_enter Try.func27, Try.ntmps27
  go_wp2_with fail
  go_loopw [9] (fun i wr => ∃ k : Nat, k ≤ m ∧ i = .int .i64 (k : Int) ∧ Hid (Below w.heap.size w wr) ∧ Hid (SetM wr w.heap.size k (fun s => s ∈ (fs.take k).map Fl.key)) ∧ Hid (∀ j, j < k → keyE fs j = 0)) (fun i _ => m - (intOf i).toNat)
  case atStart => exact ⟨0, by omega, rfl, Lib.hid (below_alloc w _), Lib.hid ((SetM.made w).congr (by simp)), Lib.hid fun j hj => absurd hj (by omega)⟩
  case round =>
    obtain ⟨k, hk, rfl, HB, HS, HE⟩ := hrel
    by_cases hlt : k < m
    · obtain ⟨b, o, fd, rfl, -, -, X, c0, c1, c2⟩ := (HF.out wr HB.out).get (i := k) (by rw [HM.out]; exact hlt)
      have hsz := HOK.out fd (List.mem_of_getElem? X)
      have HSZ : Hid (fd.key.size ≤ maxLen) := Lib.hid (Nat.le_trans hsz (by decide))
      have HU := Lib.hid (fun W => utf_valid fd.key (Nat.le_trans hsz (by decide)) W)
      have HS1 := Lib.hid (HS.out.on (below_alloc wr (.cells #[.string fd.key, .int .i64 fd.node, .bool fd.opt] 61)))
      have HA := Lib.hid (HB.out.trans ((below_alloc wr (.cells #[.string fd.key, .int .i64 fd.node, .bool fd.opt] 61)).mono HB.out.size))
      have HBK : Hid (∀ W, Below (wr.alloc (.cells #[.string fd.key, .int .i64 fd.node, .bool fd.opt] 61)).heap.size (wr.alloc (.cells #[.string fd.key, .int .i64 fd.node, .bool fd.opt] 61)) W → W.cell? ⟨wr.heap.size, 0, none⟩ = some (.string fd.key) ∧ W.cell? ⟨wr.heap.size, 1, none⟩ = some (.int .i64 fd.node) ∧ W.cell? ⟨wr.heap.size, 2, none⟩ = some (.bool fd.opt)) := Lib.hid fun W hb => by
        have hb0 := (Blk.fresh wr 61 #[.string fd.key, .int .i64 fd.node, .bool fd.opt]).on hb
        exact ⟨by rw [hb0.cell]; rfl, by rw [hb0.cell]; rfl, by rw [hb0.cell]; rfl⟩
      have HKM : Hid (k < maxLen) := Lib.hid (by unfold maxLen; omega)
      have HX := Lib.hid X
      have HSK := Lib.hid (And.intro HS.out.lt hlt)
      clear X hsz HS
      have WAYS : (uok uq0 (sbytes fd.key) = false) ∨ (uok uq0 (sbytes fd.key) = true ∧ 1021 < fd.key.size) ∨ (uok uq0 (sbytes fd.key) = true ∧ ¬ 1021 < fd.key.size ∧ fd.key ∈ (fs.take k).map Fl.key) ∨ (uok uq0 (sbytes fd.key) = true ∧ ¬ 1021 < fd.key.size ∧ fd.key ∉ (fs.take k).map Fl.key) := by
        by_cases h1 : uok uq0 (sbytes fd.key) = true
        · by_cases h2 : 1021 < fd.key.size
          · exact .inr (.inl ⟨h1, h2⟩)
          · by_cases h3 : fd.key ∈ (fs.take k).map Fl.key
            · exact .inr (.inr (.inl ⟨h1, h2, h3⟩))
            · exact .inr (.inr (.inr ⟨h1, h2, h3⟩))
        · exact .inl (by simpa using h1)
      rcases WAYS with h1 | ⟨h1, h2⟩ | ⟨h1, h2, h3⟩ | ⟨h1, h2, h3⟩
      · have HR : Hid (keysN fs = 6) := Lib.hid (keys_utf HX.out HE.out h1)
        rw [h1] at HU
        clear h1
        go_wp2_with (first
          | (go_at_call 31; refine (HU.out _).mono ?_; rintro e w3 ⟨rfl, hb3⟩; have HB3 := Lib.hid (HA.out.trans (hb3.mono HA.out.size)); clear hb3)
          | fail)
        go_ret
        exact ⟨by rw [HR.out]; rfl, HB3.out⟩
      · have HR : Hid (keysN fs = 4) := Lib.hid (keys_len HX.out HE.out h1 h2)
        rw [h1] at HU
        have hz : (1021 : Int) < (fd.key.size : Int) := by omega
        clear h1 h2
        go_wp2_with (first
          | (go_at_call 31; refine (HU.out _).mono ?_; rintro e w3 ⟨rfl, hb3⟩; obtain ⟨d0, d1, d2⟩ := HBK.out w3 hb3; have HB3 := Lib.hid (HA.out.trans (hb3.mono HA.out.size)); clear hb3)
          | fail)
        go_ret
        exact ⟨by rw [HR.out]; rfl, HB3.out⟩
      · have HR : Hid (keysN fs = 14) := Lib.hid (keys_twice HX.out HE.out h1 h2 h3)
        have HMEM : Hid (decide (fd.key ∈ (fs.take k).map Fl.key) = true) := Lib.hid (decide_eq_true h3)
        rw [h1] at HU
        have hz : (fd.key.size : Int) ≤ 1021 := by omega
        clear h1 h2 h3
        go_wp2_with (first
          | (go_at_call 31; refine (HU.out _).mono ?_; rintro e w3 ⟨rfl, hb3⟩; obtain ⟨d0, d1, d2⟩ := HBK.out w3 hb3; have HB3 := Lib.hid (HA.out.trans (hb3.mono HA.out.size)); have HS3 := Lib.hid (HS1.out.on hb3); have hlook := HS3.out.look HSZ.out; simp only [HMEM.out] at hlook; clear hb3)
          | (at_mapUpdate; obtain ⟨w4, hR4, hS4, hG4⟩ := HS3.out.store HSZ.out HKM.out; have HR4 := Lib.hid hR4; have HS4 := Lib.hid hS4; have HG4 := Lib.hid hG4; clear hR4 hS4 hG4; (with_reducible refine wpList_map_run rfl rfl HR4.out ?_ ?_ ?_ ?_); (· rfl); (· rfl); (· rfl))
          | fail)
        go_ret
        exact ⟨by rw [HR.out]; rfl, HB3.out⟩
      · have HN : Hid (keyE fs k = 0) := Lib.hid (keyE_ok HX.out h1 h2 h3)
        have HMEM : Hid (decide (fd.key ∈ (fs.take k).map Fl.key) = false) := Lib.hid (decide_eq_false h3)
        rw [h1] at HU
        have hz : (fd.key.size : Int) ≤ 1021 := by omega
        clear h1 h2 h3
        go_wp2_with (first
          | (go_at_call 31; refine (HU.out _).mono ?_; rintro e w3 ⟨rfl, hb3⟩; obtain ⟨d0, d1, d2⟩ := HBK.out w3 hb3; have HB3 := Lib.hid (HA.out.trans (hb3.mono HA.out.size)); have HS3 := Lib.hid (HS1.out.on hb3); have hlook := HS3.out.look HSZ.out; simp only [HMEM.out] at hlook; clear hb3)
          | (at_mapUpdate; obtain ⟨w4, hR4, hS4, hG4⟩ := HS3.out.store HSZ.out HKM.out; have HR4 := Lib.hid hR4; have HS4 := Lib.hid hS4; have HG4 := Lib.hid hG4; clear hR4 hS4 hG4; (with_reducible refine wpList_map_run rfl rfl HR4.out ?_ ?_ ?_ ?_); (· rfl); (· rfl); (· rfl))
          | fail)
        go_roundw
        case rel => exact ⟨k + 1, by omega, by simp, Lib.hid (HB3.out.grown HG4.out HB3.out.size (fun j hj => by cases hj; exact Nat.le_refl _)), Lib.hid (HS4.out.congr fun s => by rw [take_map_snoc Fl.key HX.out, List.mem_append, List.mem_singleton]; exact Or.comm), Lib.hid fun j hj => by
          by_cases e : j = k
          · rw [e]; exact HN.out
          · exact HE.out j (by omega)⟩
        case measure => simp [intOf]; omega
    · obtain rfl : k = m := by omega
      have HR : Hid (keysN fs = 0) := Lib.hid (by rw [keysN, HM.out]; exact firstE_all HE.out)
      go_wp2_with fail
      go_ret
      exact ⟨by rw [HR.out]; rfl, HB.out⟩
end Go.Proofs.Ytmihoeholcaokaa

/- Package schema: checkOne, Check, Width. -/
namespace Go.Proofs.Ytmihoeholcaokaa
open Go.RowKit

/-- Bounds of a node. -/
structure okN (x : Nd) : Prop where
  v : okI 1048576 x.v
  f : okF 1048576 x.f
  lf : x.l.length + x.f.length ≤ 1099511627776
theorem any_none_of {l : List Int} {q : Int → Bool} (h : ∀ j, j < l.length → q (l.getD j 0) = false) : l.any q = false := by
  rw [Bool.eq_false_iff]
  intro ha
  obtain ⟨t, ht, hq⟩ := List.any_eq_true.1 ha
  obtain ⟨j, hj, rfl⟩ := List.mem_iff_getElem.1 ht
  have := h j hj
  rw [List.getD_eq_getElem?_getD, List.getElem?_eq_getElem hj] at this
  simp only [Option.getD_some] at this
  rw [this] at hq
  cases hq
theorem any_some_of {l : List Int} {q : Int → Bool} {j : Nat} (hj : j < l.length) (h : q (l.getD j 0) = true) : l.any q = true := by
  refine List.any_eq_true.2 ⟨l[j], List.getElem_mem hj, ?_⟩
  rw [List.getD_eq_getElem?_getD, List.getElem?_eq_getElem hj] at h
  exact h
theorem length_namedN (x : Nd) : (namedN x).length = x.l.length + x.f.length := by simp [namedN]

set_option maxRecDepth 100000 in
set_option maxHeartbeats 4000000 in
theorem sch_checkOne (x : Nd) (p : Pl) (n : Nat) (i m : Int) (w : World) (hn : n ≤ w.heap.size) (hx : NdB w n x p) (ho : okN x) :
    Calls Try.prog 24 #[vN x p, .int .i64 i, .int .i64 m] w fun e w' => e = .returned (.int .i64 (wrongN chI x i m)) ∧ Below w.heap.size w w' := by
  have b1 := Blk.fresh w 42 (nc x p)
  have S := below_alloc w (.cells (nc x p) 42)
  obtain ⟨w1, hw1⟩ : ∃ w1, w.alloc (.cells (nc x p) 42) = w1 := ⟨_, rfl⟩
  rw [hw1] at b1 S
  have hsz := ho.lf
  have hnd := length_namedN x
  have C1 := fun (hk : 0 ≤ x.k) (hk' : x.k ≤ 10) W (hW : Below w.heap.size w W) => sch_formed x p n W (Nat.le_trans hn hW.size) (hx.keep (hW.mono hn)) ho.v (by omega) (by omega) hk hk'
  have C2 := fun W => sch_ranged x p W
  have C3 := fun W (hW : Below w.heap.size w W) => sch_checkKeys x.f p.Af p.cf n W (Nat.le_trans hn hW.size) (hx.f.keep (hW.mono hn)) ho.f (by omega)
  have C4 := fun W (hW : Below w.heap.size w W) => sch_Named x p n W (Nat.le_trans hn hW.size) (hx.keep (hW.mono hn)) ho.lf
  have HW : Hid (wrongN chI x i m = if x.k < 0 ∨ 10 < x.k then 18 else if formN chI x = false then 11 else if rangedN x = false then 15 else if keysN x.f ≠ 0 then keysN x.f else if (namedN x).any (nameB i m) then 13 else 0) := Lib.hid rfl
  generalize wrongN chI x i m = res at *
  generalize formN chI x = r1 at *
  generalize rangedN x = r2 at *
  generalize keysN x.f = r3 at *
  generalize namedN x = L at *
  have HC1 := Lib.hid C1
  have HC2 := Lib.hid C2
  have HC3 := Lib.hid C3
  have HC4 := Lib.hid C4
  have HB := Lib.hid b1
  have HS := Lib.hid S
  have HUP : Hid (∀ W, Below w1.heap.size w1 W → Below w.heap.size w W) := Lib.hid fun W hW => S.trans (hW.mono S.size)
  have HLN : Hid (L.length ≤ 1099511627776) := Lib.hid (by omega)
  unfold nc at b1 hw1 HB
  obtain ⟨p0, p1, p2, p3, p4, p5, p6, p7, p8⟩ := nblk b1
  clear C1 C2 C3 C4 b1 S hn hx ho hsz hnd
  simp only [vN] at HC1 HC2 HC4 ⊢
  go_enter Try.func24, Try.ntmps24
  by_cases hk : x.k < 0 ∨ 10 < x.k
  · have HR : Hid (res = 18) := Lib.hid (by rw [HW.out, if_pos hk])
    go_wp2_with fail
    all_goals first
      | (go_ret; exact ⟨by rw [HR.out]; rfl, HS.out⟩)
      | (exfalso; omega)
  have hk1 : ¬ x.k < 0 := fun h => hk (.inl h)
  have hk2 : ¬ 10 < x.k := fun h => hk (.inr h)
  have HC1' := Lib.hid (HC1.out (by omega) (by omega))
  have HW' := Lib.hid ((HW.out).trans (if_neg hk))
  clear hk HC1 HW
  cases r1 with
  | false =>
    have HR : Hid (res = 11) := Lib.hid (by rw [HW'.out]; rfl)
    go_wp2_with (first
      | (go_at_call 25; refine (HC1'.out _ HS.out).mono ?_; rintro e w2 ⟨rfl, hb2⟩; have HB2 := Lib.hid hb2; clear hb2)
      | fail)
    go_ret
    exact ⟨by rw [HR.out]; rfl, HUP.out _ HB2.out⟩
  | true =>
  cases r2 with
  | false =>
    have HR : Hid (res = 15) := Lib.hid (by rw [HW'.out]; rfl)
    go_wp2_with (first
      | (go_at_call 25; refine (HC1'.out _ HS.out).mono ?_; rintro e w2 ⟨rfl, hb2⟩; obtain ⟨s0, s1, s2, s3, s4, s5, s6, s7, s8⟩ := nblk (HB.out.on hb2); have HB2 := Lib.hid hb2; clear hb2)
      | (go_at_call 26; refine (HC2.out _).mono ?_; rintro e w3 ⟨rfl, hb3⟩; have HB3 := Lib.hid (HB2.out.trans (hb3.mono HB2.out.size)); clear hb3)
      | fail)
    go_ret
    exact ⟨by rw [HR.out]; rfl, HUP.out _ HB3.out⟩
  | true =>
  by_cases h3 : r3 = 0
  · subst h3
    have HR : Hid (res = if L.any (nameB i m) then 13 else 0) := Lib.hid (by rw [HW'.out]; rfl)
    go_wp2_with (first
      | (go_at_call 25; refine (HC1'.out _ HS.out).mono ?_; rintro e w2 ⟨rfl, hb2⟩; obtain ⟨s0, s1, s2, s3, s4, s5, s6, s7, s8⟩ := nblk (HB.out.on hb2); have HB2 := Lib.hid hb2; clear hb2)
      | (go_at_call 26; refine (HC2.out _).mono ?_; rintro e w3 ⟨rfl, hb3⟩; have HB3 := Lib.hid (HB2.out.trans (hb3.mono HB2.out.size)); obtain ⟨t0, t1, t2, t3, t4, t5, t6, t7, t8⟩ := nblk (HB.out.on HB3.out); clear hb3)
      | (go_at_call 27; refine (HC3.out _ (HUP.out _ HB3.out)).mono ?_; rintro e w4 ⟨rfl, hb4⟩; have HB4 := Lib.hid (HB3.out.trans (hb4.mono HB3.out.size)); obtain ⟨u0, u1, u2, u3, u4, u5, u6, u7, u8⟩ := nblk (HB.out.on HB4.out); clear hb4)
      | (go_at_call 28; refine (HC4.out _ (HUP.out _ HB4.out)).mono ?_; rintro e w5 ⟨⟨v, rfl, hO⟩, hb5⟩; obtain ⟨A, cap, rfl, hle, -, hnil, -, hrd⟩ := hO.form; have HRD := Lib.hid hrd; have HB5 := Lib.hid (HB4.out.trans (hb5.mono HB4.out.size)); clear hb5 hO hrd hle hnil)
      | fail)
    clear p0 p1 p2 p3 p4 p5 p6 p7 p8 s0 s1 s2 s3 s4 s5 s6 s7 s8 t0 t1 t2 t3 t4 t5 t6 t7 t8 u0 u1 u2 u3 u4 u5 u6 u7 u8 hw1
    obtain ⟨q, hq⟩ : ∃ q, L.length = q := ⟨_, rfl⟩
    have HQ := Lib.hid hq
    rw [hq] at HLN ⊢
    have hqb : (q : Int) ≤ 1099511627776 := by have := HLN.out; omega
    clear hq HLN
    go_loopw [36] (fun v wr => ∃ k : Nat, k ≤ q ∧ v = .int .i64 (k : Int) ∧ wr = w5 ∧ Hid (∀ j, j < k → nameB i m (L.getD j 0) = false)) (fun v _ => q - (intOf v).toNat)
    case atStart => exact ⟨0, by omega, rfl, rfl, Lib.hid fun j hj => absurd hj (by omega)⟩
    case round =>
      obtain ⟨k, hk, rfl, rfl, HE⟩ := hrel
      by_cases hlt : k < q
      · obtain ⟨b, o, rfl, -, c0⟩ := HRD.out.get (i := k) (by rw [HQ.out]; exact hlt)
        obtain ⟨t, ht⟩ : ∃ t, L.getD k 0 = t := ⟨_, rfl⟩
        rw [ht] at c0
        have HT := Lib.hid ht
        clear ht
        by_cases h1 : t ≤ i
        · have HF : Hid (res = 13) := Lib.hid (by rw [HR.out, if_pos (any_some_of (j := k) (by rw [HQ.out]; exact hlt) (by rw [HT.out]; simp [nameB, h1]))])
          go_wp2_with fail
          go_ret
          exact ⟨by rw [HF.out]; rfl, HUP.out _ HB5.out⟩
        · by_cases h2 : m ≤ t
          · have HF : Hid (res = 13) := Lib.hid (by rw [HR.out, if_pos (any_some_of (j := k) (by rw [HQ.out]; exact hlt) (by rw [HT.out]; simp [nameB, h2]))])
            go_wp2_with fail
            go_ret
            exact ⟨by rw [HF.out]; rfl, HUP.out _ HB5.out⟩
          · have HN : Hid (nameB i m (L.getD k 0) = false) := Lib.hid (by rw [HT.out]; simp [nameB]; omega)
            go_wp2_with fail
            go_roundw
            case rel => exact ⟨k + 1, by omega, by simp, trivial, Lib.hid fun j hj => by
              by_cases e : j = k
              · rw [e]; exact HN.out
              · exact HE.out j (by omega)⟩
            case measure => simp [intOf]; omega
      · obtain rfl : k = q := by omega
        have HF : Hid (res = 0) := Lib.hid (by rw [HR.out, any_none_of (by rw [HQ.out]; exact HE.out)]; rfl)
        go_wp2_with fail
        go_ret
        exact ⟨by rw [HF.out]; rfl, HUP.out _ HB5.out⟩
  · have HR : Hid (res = r3) := Lib.hid (by rw [HW'.out, if_neg (by decide), if_neg (by decide), if_pos h3])
    have e3 : (r3 != 0) = true := by simp [h3]
    clear h3
    go_wp2_with (first
      | (go_at_call 25; refine (HC1'.out _ HS.out).mono ?_; rintro e w2 ⟨rfl, hb2⟩; obtain ⟨s0, s1, s2, s3, s4, s5, s6, s7, s8⟩ := nblk (HB.out.on hb2); have HB2 := Lib.hid hb2; clear hb2)
      | (go_at_call 26; refine (HC2.out _).mono ?_; rintro e w3 ⟨rfl, hb3⟩; have HB3 := Lib.hid (HB2.out.trans (hb3.mono HB2.out.size)); obtain ⟨t0, t1, t2, t3, t4, t5, t6, t7, t8⟩ := nblk (HB.out.on HB3.out); clear hb3)
      | (go_at_call 27; refine (HC3.out _ (HUP.out _ HB3.out)).mono ?_; rintro e w4 ⟨rfl, hb4⟩; have HB4 := Lib.hid (HB3.out.trans (hb4.mono HB3.out.size)); clear hb4)
      | fail)
    go_ret
    exact ⟨by rw [HR.out]; rfl, HUP.out _ HB4.out⟩
end Go.Proofs.Ytmihoeholcaokaa
