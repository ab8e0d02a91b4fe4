/- Package item: twice. -/
import Derived.Test.YtbecflehidcbdaaKAU
import Derived.Test.YtbecflehidcbdaaKBE
import Derived.Lib.QuietBelow
namespace Go.Proofs.Ytbecflehidcbdaa
open Go.RowKit Go.Sort

theorem own_one {w : World} {t : It} {A : Option Addr} {cap n : Nat} (h : AtB w n t A cap) (hn : n ≤ w.heap.size) :
    OwnI (w.alloc (.cells #[.int .i64 t.k, .int .u64 t.n, .string t.s, .slice A t.l.length cap] 25)) n w.heap.size (.slice (some ⟨w.heap.size, 0, none⟩) 1 1) [t] :=
  ⟨_, oc_new w w.heap.size 25 4 1 #[.int .i64 t.k, .int .u64 t.n, .string t.s, .slice A t.l.length cap] rfl (Nat.le_refl _) (by unfold maxLen; omega), Lay.one (h.keep ((below_alloc w _).mono hn))⟩
theorem key_push {wr : World} {n B c : Nat} {v : Value} {ks : List It} {X : It} {A : Option Addr} (hown : OwnI wr n B v ks) (hX : AtB wr n X A c) (hB : B ≤ wr.heap.size) (hn : n ≤ B) (hsz : ks.length + 1 ≤ 1099511627776) :
    ∃ w2 v' w3, wr.alloc (.cells #[.int .i64 X.k, .int .u64 X.n, .string X.s, .slice A X.l.length c] 25) = w2 ∧ (Builtin.append_ #[23, 23] 23 #[v, .slice (some ⟨wr.heap.size, 0, none⟩) 1 1]).run Try.prog w2 = .ok v' w3 ∧
      OwnI w3 n B v' (ks ++ [X]) ∧ Below B wr w3 := by
  have S := below_alloc wr (.cells #[.int .i64 X.k, .int .u64 X.n, .string X.s, .slice A X.l.length c] 25)
  have o2 := own_one hX (Nat.le_trans hn hB)
  have o1 := hown.keepB S (Nat.le_trans hn hB)
  obtain ⟨v', w3, r1, r2, r3, _⟩ := run_append_items (ty := 23) o1 o2 (by simp) (by simpa using hsz) (Nat.le_trans hB S.size) hn
  exact ⟨_, v', w3, rfl, r1, r2, (S.mono hB).trans r3⟩
theorem evens_more {l : List It} {j : Nat} {X : It} (hj : j % 2 = 0) (hX : l[j]? = some X) : evens (l.take (j + 2)) = evens (l.take j) ++ [X] := by
  have hlt : j < l.length := by
    rcases Nat.lt_or_ge j l.length with h | h
    · exact h
    · rw [List.getElem?_eq_none h] at hX; cases hX
  obtain ⟨i, rfl⟩ : ∃ i, j = 2 * i := ⟨j / 2, by omega⟩
  rw [evens_take l i hlt]
  rw [List.getElem?_eq_getElem hlt] at hX
  injection hX with hX
  rw [hX]
theorem evens_short (l : List It) (j : Nat) : (evens (l.take j)).length ≤ l.length := by
  rw [length_evens, List.length_take]
  omega

set_option maxRecDepth 100000 in
set_option maxHeartbeats 4000000 in
theorem item_twice (l : List It) (A : Option Addr) (cap n : Nat) (w : World) (hc : countL l ≤ 1099511627775) (hn : n ≤ w.heap.size) (h : RL w n l A cap) :
    Calls Try.prog 31 #[.slice A l.length cap] w fun e w' => e = .returned (.bool (twiceB l)) ∧ Below w.heap.size w w' := by
  by_cases hl0 : l = []
  · subst hl0
    refine (twice0 A cap w).mono fun e w' he => ⟨?_, ?_⟩
    · rw [he.1, twiceB_nil]
    · rw [he.2]; exact Below.refl _ _
  have hpos : 0 < l.length := List.length_pos_iff.2 hl0
  have hlen := length_le_countL l
  have hml : (l.length : Int) < 1099511627776 := by omega
  have hke := length_evens l
  have HKC : RowKit.Hid (∀ t ∈ evens l, t.count ≤ 1099511627775) := Lib.hid fun t ht => Nat.le_trans (count_le_of_mem (mem_evens ht)) hc
  have HN := Lib.hid hn
  have HR := Lib.hid h
  have HLE := Lib.hid (fun _ : Unit => hlen)
  have HQP := Lib.hid (show 0 < (evens l).length by omega)
  have HQL := Lib.hid (show (evens l).length ≤ l.length by omega)
  obtain ⟨m, hm⟩ : ∃ m, l.length = m := ⟨_, rfl⟩
  rw [hm] at hpos hml ⊢
  have HM := Lib.hid hm
  have HC := Lib.hid (fun _ : Unit => hc)
  clear hm hc hn h hl0 hlen hke
  go_enter Try.func31, Try.ntmps31
  go_wp2_with fail
  go_loopw [3, 4] (fun v i wr => ∃ j : Nat, j ≤ m + 1 ∧ i = .int .i64 (j : Int) ∧ RowKit.Hid (j % 2 = 0) ∧ RowKit.Hid (OwnI wr n w.heap.size v (evens (l.take j))) ∧ RowKit.Hid (Below w.heap.size w wr)) (fun _ i _ => m + 1 - (intOf i).toNat)
  case atStart => exact ⟨0, by omega, rfl, Lib.hid rfl, Lib.hid ⟨[], World.ownsRow_nil _ _ _ _, rfl⟩, Lib.hid (Below.refl _ _)⟩
  case round =>
    obtain ⟨j, hj, rfl, HJ, HO, HB⟩ := hrel
    by_cases hlt : j < m
    · as_aux_lemma =>
      obtain ⟨b, o, X, A', c', rfl, -, hb1, hX, mX, x0, x1, x2, x3, hx⟩ := (HR.out.keep (HB.out.mono HN.out)).item (i := j) (by rw [HM.out]; exact hlt)
      obtain ⟨w2, v', w3, hw2, hr, ho3, hb3⟩ := key_push HO.out hx HB.out.size HN.out (by have := evens_short l j; have := HLE.out (); have := HC.out (); omega)
      have hji : (j : Int) < m := by omega
      have HRA := Lib.hid hr
      have HO3 := Lib.hid ho3
      have HB3 := Lib.hid hb3
      have HX := Lib.hid hX
      clear hr ho3 hb3 hX mX hx
      go_wp2_with ((with_reducible refine is_append 23 rfl ?_); (with_reducible refine wpList_append_run rfl rfl HRA.out ?_ ?_ ?_); (· rfl); (· rfl))
      go_roundw
      case rel =>
        refine ⟨j + 2, by omega, by simp, Lib.hid (by have := HJ.out; omega), Lib.hid ?_, Lib.hid (HB.out.trans HB3.out)⟩
        rw [evens_more HJ.out HX.out]
        exact HO3.out
      case measure => simp [intOf]; omega
    · have hall : l.take j = l := List.take_of_length_le (by rw [HM.out]; omega)
      have HO' := HO.out
      rw [hall] at HO'
      obtain ⟨g, cap', rfl, hle, hcap, hgB, hgs⟩ := HO'.form HQP.out
      have hsrt := run_sort HO' (Nat.le_trans HN.out hgB) hgs HKC.out (by have := HQL.out; have := HLE.out (); have := HC.out (); omega) hle
      obtain ⟨q, hq⟩ : ∃ q, (evens l).length = q := ⟨_, rfl⟩
      have hq1 : 1 ≤ q := by rw [← hq]; exact HQP.out
      have hqm : (q : Int) < 1099511627776 := by have := HQL.out; have := HM.out; omega
      rw [hq] at hsrt hle ⊢
      have HQ := Lib.hid hq
      have HS := Lib.hid hsrt
      have HGB := Lib.hid hgB
      have HGS := Lib.hid hgs
      clear hsrt hall hq HO' HO hgB hgs hcap hle
      go_wp2_with (go_at_call 39; refine HS.out.mono ?_; rintro e w2 ⟨rfl, d, hp, hs, hrl, hb2⟩; have HP := Lib.hid hp; have HSD := Lib.hid hs; have HRL := Lib.hid hrl; have HB2 := Lib.hid hb2; clear hp hs hrl hb2)
      have HDL : RowKit.Hid (d.length = q) := Lib.hid (by rw [HP.out.length_eq, HQ.out])
      have HBW : RowKit.Hid (Below w.heap.size w w2) := Lib.hid (HB.out.trans (HB2.out.toBelow.mono HGB.out))
      have HGS2 : RowKit.Hid (g < w2.heap.size) := Lib.hid (Nat.lt_of_lt_of_le HGS.out HB2.out.size)
      have HTW : RowKit.Hid (∀ _ : Unit, (twice l ↔ ∃ i, ∃ h : i + 1 < d.length, d[i] = d[i + 1])) := Lib.hid fun _ => twice_sorted HP.out HSD.out
      have HDC : RowKit.Hid (∀ t ∈ d, t.count ≤ 1099511627775) := Lib.hid fun t ht => HKC.out t (HP.out.mem_iff.1 ht)
      clear HS HB2 HSD HP HGS
      go_loopw [5] (fun i w3 => ∃ p : Nat, p + 1 ≤ q ∧ i = .int .i64 ((p + 1 : Nat) : Int) ∧ RowKit.Hid (∀ i, ∀ h : i + 1 < d.length, i < p → d[i] ≠ d[i + 1]) ∧ RowKit.Hid (Below w2.heap.size w2 w3)) (fun i _ => q - (intOf i).toNat)
      case atStart => exact ⟨0, by omega, rfl, Lib.hid fun i _ hi => absurd hi (by omega), Lib.hid (Below.refl _ _)⟩
      case round =>
        obtain ⟨p, hpq, rfl, HNE, HB3⟩ := hrel
        obtain ⟨z, hz⟩ : ∃ z : Nat, p + 1 = z := ⟨_, rfl⟩
        have HZ := Lib.hid hz
        have hzi : (z : Int) = p + 1 := by omega
        rw [hz]
        by_cases hlt : z < q
        · have hrl := HRL.out.keep (HB3.out.mono (show g + 1 ≤ w2.heap.size by have := HGS2.out; omega))
          obtain ⟨b1, o1, X, A1, c1, ea, -, hg1, hX, mX, x0, x1, x2, x3, hx⟩ := hrl.item (i := p) (by rw [HDL.out]; omega)
          injection ea with ea
          injection ea with eb eo
          subst eb eo
          obtain ⟨b2, o2, Y, A2, c2, ea, -, hg2, hY, mY, y0, y1, y2, y3, hy⟩ := hrl.item (i := z) (by rw [HDL.out]; omega)
          injection ea with ea
          injection ea with eb eo
          subst eb eo
          simp only [Nat.zero_add] at x0 x1 x2 x3 y0 y1 y2 y3
          have hgr : g + 1 ≤ wr.heap.size := hg1
          have D1 := fun d os => Calls.regrown_of (item_Same X Y A1 A2 c1 c2 (g + 1) (grow (redrawn wr d) os) (HDC.out X mX) (Nat.le_trans hgr (below_regrown wr d os).size) (hx.keep ((below_regrown wr d os).mono hgr)) (hy.keep ((below_regrown wr d os).mono hgr)))
          simp only [vI] at D1
          have HT : RowKit.Hid (sameB X Y = true → twiceB l = true) := Lib.hid fun h => twiceB_true.2 ((HTW.out ()).2 ⟨p, by have := HDL.out; omega, by
            have h1 := hX; have h2 := hY
            rw [← hz, List.getElem?_eq_getElem (by have := HDL.out; omega)] at h2
            rw [List.getElem?_eq_getElem (by have := HDL.out; omega)] at h1
            injection h1 with h1; injection h2 with h2
            rw [h1, h2]
            exact sameB_true.1 h⟩)
          have HF : RowKit.Hid (sameB X Y = false → ∀ i, ∀ h : i + 1 < d.length, i < p + 1 → d[i] ≠ d[i + 1]) := Lib.hid fun hs i h hi => by
            by_cases e : i = p
            · subst e
              have h1 := hX; have h2 := hY
              rw [← hz, List.getElem?_eq_getElem (by have := HDL.out; omega)] at h2
              rw [List.getElem?_eq_getElem (by have := HDL.out; omega)] at h1
              injection h1 with h1; injection h2 with h2
              rw [h1, h2]
              intro e
              rw [sameB_true.2 e] at hs
              cases hs
            · exact HNE.out i h (by omega)
          generalize sameB X Y = s at *
          have HD1 := Lib.hid D1
          have kx0 := cell_regrown x0
          have kx1 := cell_regrown x1
          have kx2 := cell_regrown x2
          have kx3 := cell_regrown x3
          have ky0 := cell_regrown y0
          have ky1 := cell_regrown y1
          have ky2 := cell_regrown y2
          have ky3 := cell_regrown y3
          have hp0 : IntKind.i64.wrap ((z : Int) - 1) = (p : Int) := by rw [IntWalk.i64_in _ (by omega)]; omega
          have hpi : (p : Int) < q := by omega
          clear D1 hX hY mX mY hx hy x0 x1 x2 x3 y0 y1 y2 y3 hrl hg1 hg2 hgr hzi hz
          go_wp2_with fail
          obtain ⟨wo, rfl⟩ : ∃ wo, wo = wr := ⟨_, rfl⟩
          refine wp_region_quiet_below (by kernel_rfl) (by kernel_rfl) ?_
          repeat (quiet_step (exact HD1.out _ _))
          refine wpQuiet_nil ?_
          intro _ hw'
          obtain ⟨⟨dq, osq⟩, hw''⟩ := hw'
          subst hw''
          have HB4 : RowKit.Hid (Below w2.heap.size w2 (grow (redrawn wo dq) osq)) := Lib.hid (HB3.out.trans ((below_regrown wo dq osq).mono HB3.out.size))
          clear kx0 kx1 kx2 kx3 ky0 ky1 ky2 ky3 HD1 hp0 hpi
          generalize grow (redrawn wo dq) osq = w4 at *
          cases s
          · have HNE' := Lib.hid (HF.out rfl)
            go_wp2_with fail
            go_roundw
            case rel => exact ⟨z, by omega, by simp, by rw [← HZ.out]; exact HNE', HB4⟩
            case measure => simp [intOf]; omega
          · have HT' := Lib.hid (HT.out rfl)
            go_wp2_with fail
            go_ret
            exact ⟨by rw [HT'.out]; rfl, HBW.out.trans (HB4.out.mono HBW.out.size)⟩
        · have HT' : RowKit.Hid (twiceB l = false) := Lib.hid (twiceB_false.2 fun h => by
            obtain ⟨i, hi, e⟩ := (HTW.out ()).1 h
            exact HNE.out i hi (by have := HDL.out; omega) e)
          clear hqm hml hpos
          have hzq : ¬ ((z : Int) < q) := by omega
          go_wp2_with fail
          go_ret
          exact ⟨by rw [HT'.out]; rfl, HBW.out.trans (HB3.out.mono HBW.out.size)⟩
end Go.Proofs.Ytbecflehidcbdaa
