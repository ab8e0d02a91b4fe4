/- The document's order of a map's keys. -/
import Derived.Test.YtgcgidoikpbfpaaGreatKBH
import Derived.Test.YtgcgidoikpbfpaaGreatKAQ
import Derived.Deep.RegionLaw
namespace Go.Proofs.YtgcgidoikpbfpaaGreat
open Go.RowKit

/-- A slice reads as these cells. -/
def RdC (w : World) (y : Value) (xs : List Value) : Prop := ∃ A cap, y = .slice A xs.length cap ∧ (A = none → cap = 0) ∧ (0 < xs.length → ∃ b o, A = some ⟨b, o, none⟩ ∧ ∀ j, j < xs.length → w.cell? ⟨b, o + j, none⟩ = xs[j]?)
section
variable {P : Program}
theorem run_append_row {w : World} {B : Nat} {t ty e : TypeId} {bytes : Nat} {v y z : Value} {n : Nat} {cs xs : List Value} (ht : P.underlying t = some (.slice e))
    (hi : (P.info? e).map (fun i => (i.zero, i.size, i.bytes)) = some (some z, 1, bytes)) (hz : z.cells.size = 1) (hby : bytes ≤ 64)
    (hown : w.ownsRow B e 1 v n cs) (hr : RdC w y xs) (h1 : ∀ u ∈ xs, u.oneCell' = true) (hb : n + xs.length ≤ 1099511627776) (hB : B ≤ w.heap.size) :
    ∃ v' w', (Builtin.append_ #[t, t] ty #[v, y]).run P w = .ok v' w' ∧ w'.ownsRow B e 1 v' (n + xs.length) (cs ++ xs) ∧ Below B w w' ∧ w.grownBy w' v.ownBlock := by
  obtain ⟨A, cap, rfl, hn, hc⟩ := hr
  cases A with
  | none =>
    obtain rfl := hn rfl
    have hx : xs = [] := by
      rcases xs with _ | ⟨x, r⟩
      · rfl
      · obtain ⟨b, o, h, _⟩ := hc (by simp)
        cases h
    subst hx
    obtain ⟨i, hi0, hz0, hz1, hz2⟩ := info_parts hi
    exact ⟨v, w, run_append_owned_none (P := P) w B t ty e i 1 ht hi0 v _ _ hown, by simpa using hown, Below.refl _ _, World.grownBy.refl _ _⟩
  | some ad =>
    obtain ⟨v', w', r1, r2, r3, r4, _⟩ := oc_append (P := P) (t := t) (ty := ty) (e := e) (s := 1) (bytes := bytes) (m := xs.length) (c := cap) (news := xs) (a := ad) ht hi hz (by decide) hby hown (by omega)
      (fun j u hj => by
        have hj' : j < xs.length := by
          rcases Nat.lt_or_ge j xs.length with h | h
          · exact h
          · rw [List.getElem?_eq_none h] at hj; cases hj
        obtain ⟨b, o, hA, hcell⟩ := hc (by omega)
        injection hA with hA
        subst hA
        rw [Addr.add_mid, hcell j hj']
        exact hj) h1 hb hB
    exact ⟨v', w', r1, r2, r3, r4⟩
/-- For an arm of a region that draws: append of such a slice to one of the call's own. -/
theorem step_append_row {ops : Array Oper} {o : Oper} {a : Act} {w : World} {K : Act → World → Prop} {Q : Exit → Act → World → Prop} {E : Prop} (hgd : o.guard = none) {s x : Operand} {t e : TypeId}
    (ho : o.op = .call { callee := .builtin .append, args := #[s, x], argTypes := #[t, t] }) {B bytes : Nat} {v y z : Value} {n : Nat} {cs xs : List Value} (hs : a.eval s = v) (hx : a.eval x = y)
    (ht : P.underlying t = some (.slice e)) (hi : (P.info? e).map (fun i => (i.zero, i.size, i.bytes)) = some (some z, 1, bytes)) (hz : z.cells.size = 1) (hby : bytes ≤ 64)
    (hown : w.ownsRow B e 1 v n cs) (hr : RdC w y xs) (h1 : ∀ u ∈ xs, u.oneCell' = true) (hb : n + xs.length ≤ 1099511627776) (hB : B ≤ w.heap.size)
    (h : ∀ v' w', w'.ownsRow B e 1 v' (n + xs.length) (cs ++ xs) → Below B w w' → w.grownBy w' v.ownBlock → K (a.put o.dst v') w') : if Region.wanted o (yielded ops a.tmps) = true then Oper.wp P o a w K Q else E := by
  obtain ⟨v', w', r1, r2, r3, r4⟩ := run_append_row (ty := o.type) ht hi hz hby hown hr h1 hb hB
  exact step_append_run hgd ho r1 hs hx (h v' w' r2 r3 r4)
end

theorem RdC.on {w w' : World} {y : Value} {xs : List Value} (h : RdC w y xs) (hb : Below w.heap.size w w') : RdC w' y xs := by
  obtain ⟨A, cap, h1, h2, h3⟩ := h
  refine ⟨A, cap, h1, h2, fun hp => ?_⟩
  obtain ⟨b, o, hA, hc⟩ := h3 hp
  refine ⟨b, o, hA, fun j hj => ?_⟩
  have h4 := hc j hj
  rw [List.getElem?_eq_getElem hj] at h4 ⊢
  rw [hb.cell (p := ⟨b, o + j, none⟩) (block_lt_of_cell h4)]
  exact h4
theorem rd_head {w : World} {B : Nat} {e : TypeId} {A : Option Addr} {m j ck : Nat} {cs : List Value} (h : w.ownsRow B e 1 (.slice A m ck) j cs) {p : Nat} (hp : p ≤ j) : RdC w (.slice A p ck) (cs.take p) := by
  obtain ⟨A', cap', hv, h1, _, h2, h3⟩ := oc_form h
  injection hv with e1 e2 e3
  subst e1 e3
  have hl : cs.length = j := by rw [h.1]; omega
  have hlp : (cs.take p).length = p := by rw [List.length_take]; omega
  refine ⟨A, ck, by rw [hlp], h2, fun hp0 => ?_⟩
  rw [hlp] at hp0 ⊢
  obtain ⟨g, cap2, hv2, _⟩ := oc_head h (by omega)
  injection hv2 with e1 e2 e3
  subst e1 e3
  refine ⟨g, 0, rfl, fun i hi => ?_⟩
  subst e2
  rw [Nat.zero_add, (oc_cell h (by omega)).1, List.getElem?_take_of_lt hi]
theorem rd_tail {w : World} {B : Nat} {e : TypeId} {A : Option Addr} {m j ck : Nat} {cs : List Value} (h : w.ownsRow B e 1 (.slice A m ck) j cs) {p : Nat} (hp : p ≤ j) : RdC w (.slice (if ck = p then A else A.map (·.add (p * 1))) (j - p) (ck - p)) (cs.drop p) := by
  obtain ⟨A', cap', hv, h1, _, h2, h3⟩ := oc_form h
  injection hv with e1 e2 e3
  subst e1 e3
  have hl : cs.length = j := by rw [h.1]; omega
  have hlp : (cs.drop p).length = j - p := by rw [List.length_drop]; omega
  refine ⟨_, _, by rw [hlp], fun hn => ?_, fun hp0 => ?_⟩
  · by_cases hc : ck = p
    · omega
    · rw [if_neg hc] at hn
      have := h2 (by simpa using hn)
      omega
  rw [hlp] at hp0 ⊢
  rw [if_neg (by omega)]
  obtain ⟨g, cap2, hv2, _⟩ := oc_head h (by omega)
  injection hv2 with e1 e2 e3
  subst e1 e3
  subst e2
  refine ⟨g, p, ?_, fun i hi => ?_⟩
  · show some (Addr.add ⟨g, 0, none⟩ (p * 1)) = _
    rw [Nat.mul_one, Addr.add_mid, Nat.zero_add]
  rw [(oc_cell h (by omega)).1, List.getElem?_drop]
theorem rd_blk {w : World} {g : Nat} {t : TypeId} {u : Value} {c : Nat} (h : Blk w g t #[u]) : RdC w (.slice (some ⟨g, 0, none⟩) 1 c) [u] := ⟨_, _, rfl, (fun h => by cases h), fun _ => ⟨g, 0, rfl, fun j hj => by
  obtain rfl : j = 0 := by simp at hj; omega
  rw [h.cell]
  rfl⟩⟩
theorem strs_one (l : List ByteArray) : ∀ u ∈ l.map Value.string, u.oneCell' = true := fun u hu => by
  obtain ⟨s, _, rfl⟩ := List.mem_map.1 hu
  rfl
theorem ints_one (l : List Int) : ∀ u ∈ l.map (Value.int .i64), u.oneCell' = true := fun u hu => by
  obtain ⟨s, _, rfl⟩ := List.mem_map.1 hu
  rfl
theorem grown_blk {W W' : World} {g g1 : Nat} {t : TypeId} {cs : Array Value} (hg : W.grownBy W' (some g)) (h : Blk W g1 t cs) (hne : g1 ≠ g) : Blk W' g1 t cs := by
  have := hg.block g1 h.lt (by simpa using hne)
  exact this.trans h
/-- What stands in memory ahead of an insertion's first append. -/
structure Ins (w7 W : World) (e : TypeId) (x : Value) (g0 : Nat) : Prop where
  own : W.ownsRow w7.heap.size e 1 (.slice (some ⟨g0, 0, none⟩) 0 0) 0 []
  low : Below w7.heap.size w7 W
theorem ins_grown {w7 W W1 : World} {e t : TypeId} {x : Value} {g0 g1 : Nat} {cs : Array Value} (_ : Ins w7 W e x g0) (h : W.grownBy W1 (Value.slice (some ⟨g0, 0, none⟩) 0 0).ownBlock) (hb : Blk W g1 t cs) (hne : g1 ≠ g0) : Blk W1 g1 t cs := grown_blk h hb hne
theorem ins0 (w7 : World) (e : TypeId) (x : Value) : Ins w7 (w7.alloc (.cells #[] e)).drew e x w7.heap.size := ⟨oc_new w7 _ e 1 0 #[] rfl (Nat.le_refl _) (by decide), below_drawn (below_alloc _ _)⟩
theorem ins01 (w7 : World) (e : TypeId) (x : Value) : Ins w7 ((w7.alloc (.cells #[] e)).alloc (.cells #[x] e)).drew e x w7.heap.size ∧ Blk ((w7.alloc (.cells #[] e)).alloc (.cells #[x] e)).drew (w7.heap.size + 1) e #[x] := by
  refine ⟨⟨oc_alloc (oc_new w7 _ e 1 0 #[] rfl (Nat.le_refl _) (by decide)) _, below_drawn ((below_alloc _ _).alloc (by simp) _)⟩, ?_⟩
  have := Blk.fresh (w7.alloc (.cells #[] e)) e #[x]
  rw [World.size_alloc] at this
  exact this
theorem ins10 (w7 : World) (e : TypeId) (x : Value) : Ins w7 ((w7.alloc (.cells #[x] e)).alloc (.cells #[] e)).drew e x (w7.heap.size + 1) ∧ Blk ((w7.alloc (.cells #[x] e)).alloc (.cells #[] e)).drew w7.heap.size e #[x] := by
  refine ⟨⟨?_, below_drawn ((below_alloc _ _).alloc (by simp) _)⟩, (Blk.fresh w7 e #[x]).alloc _⟩
  have := oc_new (w7.alloc (.cells #[x] e)) w7.heap.size e 1 0 #[] rfl (by simp) (by decide)
  rw [World.size_alloc] at this
  exact this
/-- s[:m] of a slice that begins a block, or of none. -/
theorem run_lessA {P : Program} {t elem : TypeId} {sz : Nat} (hu : P.underlying t = some (.slice elem)) (hs : (P.info? elem).map (·.size) = some sz) (w : World) (A : Option Addr) (hA : ∀ p, A = some p → ∃ g, p = ⟨g, 0, none⟩) (len cap m : Nat) (hm : m ≤ cap) :
    (Instr.sliceAt t (.slice A len cap) none (some (.int .i64 (m : Int))) none).run P w = .ok (.slice A m cap) w := by
  have he : P.elem t = elem := by simp [Program.elem, hu]
  rw [run_sliceAt_slice w t _ _ _ _ (by rw [he]; exact hu), run_slice_h w t _ len cap (by rw [he]; exact hu) .i64 m (by omega) (by omega), he, size_run hs]
  cases A with
  | none => simp [sliced]
  | some p =>
    obtain ⟨g, rfl⟩ := hA p rfl
    simp [sliced, Addr.add_mid]

set_option maxRecDepth 100000 in
set_option maxHeartbeats 4000000 in
theorem ref_order (x : It) (A : Option Addr) (cap n : Nat) (w : World) (f : Nat → ByteArray) (hl : x.l.length ≤ 1099511627) (hn : n ≤ w.heap.size) (h : AtB w n x A cap) (hf : ∀ i, (f i).size ≤ 1000000000)
    (hP : ∀ i X A cap W, x.l[2 * i]? = some X → n ≤ W.heap.size → AtB W n X A cap → Calls Tryz.prog 18 #[vI X A cap] W fun e w' => e = .returned (.string (f i)) ∧ Below W.heap.size W w') :
    Calls Tryz.prog 29 #[.slice A x.l.length cap] w fun e w' => ∃ v, e = .returned v ∧ Own w' w.heap.size .i64 3 v (ordS f (x.l.length / 2)).2 ∧ Below w.heap.size w w' := by
  simp only [vI] at hP
  have HP := Lib.hid hP
  have HH := Lib.hid h
  have HN := Lib.hid hn
  have HF := Lib.hid (fun (_ : Unit) => hf)
  obtain ⟨m, hm⟩ : ∃ m, x.l.length = m := ⟨_, rfl⟩
  rw [hm] at hl ⊢
  have hml : (m : Int) < 1099511628 := by omega
  have HM := Lib.hid hm
  clear hP h hn hf hl hm
  go_enter Tryz.func29, Tryz.ntmps29
  go_wp2_with fail
  go_loopw [3, 4, 5] (fun out keys i wr => ∃ j : Nat, 2 * j ≤ m ∧ i = .int .i64 ((2 * j : Nat) : Int) ∧ RowKit.Hid (Own wr w.heap.size .i64 3 out (ordS f j).2) ∧ RowKit.Hid (wr.ownsRow w.heap.size 9 1 keys j ((ordS f j).1.map Value.string)) ∧ RowKit.Hid (Below w.heap.size w wr)) (fun _ _ i _ => m - (intOf i).toNat)
  case atStart => exact ⟨0, by omega, rfl, Lib.hid (Own.nil _ _ _ _), Lib.hid (World.ownsRow_nil w _ _ 1), Lib.hid (Below.refl _ _)⟩
  case round =>
    obtain ⟨j, hj, rfl, HO, HK, HB⟩ := hrel
    by_cases hlt : 2 * j + 1 < m
    · have hltI : ((2 * j : Nat) : Int) + 1 < m := by omega
      obtain ⟨u, hu⟩ : ∃ u, 2 * j = u := ⟨_, rfl⟩
      have hbn := HB.out.mono HN.out
      obtain ⟨b, o, X, A', c', rfl, -, hb1, hX, mX, x0, x1, x2, x3, hx⟩ := (HH.out.keep hbn).item (i := 2 * j) (by rw [HM.out]; omega)
      have hBr : w.heap.size ≤ wr.heap.size := HB.out.size
      have C := HP.out j X A' c' wr hX (Nat.le_trans HN.out hBr) hx
      have HC := Lib.hid C
      rw [hu] at hltI x0 x1 x2 x3 ⊢
      have HU := Lib.hid hu
      have huI : (u : Int) < m := by omega
      clear C hX mX hx hbn hj hlt hu
      go_wp2_with (go_at_call 18; refine HC.out.mono ?_; rintro e w6 ⟨rfl, hb⟩; have HB6 := Lib.hid hb; clear hb)
      obtain ⟨AK, ck, rfl, hk1, hk2, hk3, hk4⟩ := oc_form HK.out
      obtain ⟨ks, hks⟩ : ∃ ks, (ordS f j).1 = ks := ⟨_, rfl⟩
      obtain ⟨os, hos⟩ : ∃ os, (ordS f j).2 = os := ⟨_, rfl⟩
      obtain ⟨kk, hkk⟩ : ∃ kk, f j = kk := ⟨_, rfl⟩
      have hlk : ks.length = j := by rw [← hks]; exact (length_ordS f j).1
      have hlo : os.length = j := by rw [← hos]; exact (length_ordS f j).2
      have hsz : ∀ i, (ks.getD i ByteArray.empty).size ≤ 1000000000 := fun i => by
        by_cases hi : i < ks.length
        · have hm : ks.getD i ByteArray.empty ∈ (ordS f j).1 := by
            rw [hks, List.getD_eq_getElem?_getD, List.getElem?_eq_getElem hi]
            exact List.getElem_mem hi
          obtain ⟨i', _, e⟩ := ordS_keys hm
          rw [e]
          exact HF.out () i'
        · rw [List.getD_eq_getElem?_getD, List.getElem?_eq_none (by omega)]
          simp
      have hkz : kk.size ≤ 1000000000 := by rw [← hkk]; exact HF.out () j
      have HST : RowKit.Hid (ordS f (j + 1) = (insAt (ordAt ks kk) kk ks, insAt (ordAt ks kk) ((2 * j : Nat) : Int) os)) := Lib.hid (by rw [ordS, hks, hos, hkk])
      have HLT := Lib.hid (fun a => @ordAt_lt kk ks a)
      have HEQ := Lib.hid (@ordAt_eq ks kk)
      have hpj := ordAt_le ks kk
      rw [hlk] at hpj HEQ
      rw [hks] at HK
      rw [hos] at HO
      rw [hkk]
      obtain ⟨p, hp⟩ : ∃ p, ordAt ks kk = p := ⟨_, rfl⟩
      rw [hp] at hpj HST HLT HEQ
      have HLS := Lib.hid (fun a W => ref_Less (ks.getD a ByteArray.empty) kk (hsz a) hkz W)
      have HK6 := Lib.hid (oc_on (oc_on HK.out (Below.refl _ _)) HB6.out)
      have HO6 := Lib.hid (HO.out.below HB6.out)
      have HLK := Lib.hid hlk
      have HLO := Lib.hid hlo
      have HPJ := Lib.hid hpj
      clear HO HK hk1 hk2 hk3 hk4 hks hos hkk hlk hlo hsz hkz hp HC x0 x1 x2 x3 hpj
      go_loopw [7] (fun at_ wr2 => ∃ a : Nat, a ≤ p ∧ at_ = .int .i64 (a : Int) ∧ ∃ q, wr2 = w6.drewN q) (fun at_ _ => p - (intOf at_).toNat)
      case atStart => exact ⟨0, by omega, rfl, 0, rfl⟩
      case round =>
        obtain ⟨a, ha, rfl, q, rfl⟩ := hrel
        by_cases hap : a < p
        · have haj : a < j := by have := HPJ.out; omega
          obtain ⟨gk, ck', hv, -, -, -, -⟩ := oc_head HK6.out (by omega)
          injection hv with hv1 hv2 hv3
          subst hv1 hv3
          have hc := (oc_cell HK6.out (j := a) (by omega)).1
          have hc' : w6.cell? ⟨gk, a, none⟩ = some (.string (ks.getD a ByteArray.empty)) := by
            rw [hc, List.getElem?_map, List.getElem?_eq_getElem (by rw [HLK.out]; exact haj)]
            simp [List.getD_eq_getElem?_getD, HLK.out, haj]
          have hc2 : (w6.drewN q).cell? ⟨gk, a, none⟩ = some (.string (ks.getD a ByteArray.empty)) := hc'
          have C := HLS.out a (w6.drewN q)
          rw [HLT.out a hap] at C
          have HC := Lib.hid C
          have hajI : (a : Int) < j := by omega
          clear C hc hc'
          go_wp2_with (go_at_call 36; refine HC.out.mono ?_; rintro e w7 ⟨rfl, q', rfl⟩)
          have e1 : wrap64 ((a : Int) + 1) = (a : Int) + 1 := IntWalk.wrap64_in _ (by have := HU.out; omega)
          go_roundw
          case rel => exact ⟨a + 1, by omega, by rw [e1]; simp, q + q', rfl⟩
          case measure => rw [e1]; simp [intOf]; omega
        · obtain rfl : a = p := by omega
          by_cases haj : a < j
          · obtain ⟨gk, ck', hv, -, -, -, -⟩ := oc_head HK6.out (by omega)
            injection hv with hv1 hv2 hv3
            subst hv1 hv3
            have hc := (oc_cell HK6.out (j := a) (by omega)).1
            have hc' : w6.cell? ⟨gk, a, none⟩ = some (.string (ks.getD a ByteArray.empty)) := by
              rw [hc, List.getElem?_map, List.getElem?_eq_getElem (by rw [HLK.out]; exact haj)]
              simp [List.getD_eq_getElem?_getD, HLK.out, haj]
            have hc2 : (w6.drewN q).cell? ⟨gk, a, none⟩ = some (.string (ks.getD a ByteArray.empty)) := hc'
            have C := HLS.out a (w6.drewN q)
            rw [HEQ.out haj] at C
            have HC := Lib.hid C
            have hajI : (a : Int) < j := by omega
            clear C hc hc'
            go_wp2_with (go_at_call 36; refine HC.out.mono ?_; rintro e w7 ⟨rfl, q', rfl⟩)
            obtain ⟨q2, hq2⟩ : ∃ q2, q + q' = q2 := ⟨_, rfl⟩
            simp only [hq2]
            have HK7 := Lib.hid (oc_drewN HK6.out q2)
            have HO7 := Lib.hid (HO6.out.drewN q2)
            have HB7 := Lib.hid (below_drawnN HB6.out q2)
            generalize w6.drewN q2 = w7 at *
            obtain ⟨AK, hAK⟩ : ∃ AK, (some ⟨gk, 0, none⟩ : Option Addr) = AK := ⟨_, rfl⟩
            rw [hAK] at HK6 HK7 ⊢
            clear hAK hc2 HC
            have hap2 : a ≤ 1099511628 := by have := HPJ.out; have := HU.out; omega
            have hjp2 : j - a ≤ 1099511628 := by have := HU.out; omega
            obtain ⟨AK', ck', hv, hk1, hk2, hk3, hk4⟩ := oc_form HK7.out
            injection hv with hv1 hv2 hv3
            subst hv1 hv3
            have sl1 := fun w => run_lessA (P := Tryz.prog) (t := 63) (elem := 9) (sz := 1) (by kernel_rfl) (by kernel_rfl) w AK (fun p hp => (hk4 p hp).imp fun _ h => h.1) j ck a (by have := HPJ.out; omega)
            have sl2 := fun w => run_cutK (P := Tryz.prog) (t := 63) (elem := 9) (sz := 1) (by kernel_rfl) (by kernel_rfl) w AK j ck a a rfl HPJ.out
            obtain ⟨y2, hy2⟩ : ∃ y2, Value.slice (if ck = a then AK else AK.map (·.add (a * 1))) (j - a) (ck - a) = y2 := ⟨_, rfl⟩
            have HY2 := Lib.hid (hy2 ▸ rd_tail HK7.out HPJ.out)
            rw [hy2] at sl2
            clear hy2 hk1 hk2 hk3 hk4
            have hR1 := rd_head HK7.out HPJ.out
            have hlt1 : ((ks.map Value.string).take a).length = a := by rw [List.length_take, List.length_map, HLK.out]; have := HPJ.out; omega
            have hlt2 : ((ks.map Value.string).drop a).length = j - a := by rw [List.length_drop, List.length_map, HLK.out]
            have hone1 : ∀ u ∈ (ks.map Value.string).take a, u.oneCell' = true := fun u hu => strs_one _ u (List.mem_of_mem_take hu)
            have hone2 : ∀ u ∈ (ks.map Value.string).drop a, u.oneCell' = true := fun u hu => strs_one _ u (List.mem_of_mem_drop hu)
            have hone3 : ∀ u ∈ [Value.string kk], u.oneCell' = true := fun u hu => by rw [List.mem_singleton] at hu; subst hu; rfl
            have I1 := Lib.hid (ins0 w7 9 (.string kk))
            have I2 := Lib.hid (ins01 w7 9 (.string kk))
            have I3 := Lib.hid (ins10 w7 9 (.string kk))
            go_region_law ((first
              | (refine step_append_row (t := 63) (e := 9) (bytes := 16) (z := .string ⟨#[]⟩) (B := w7.heap.size) (n := 0) (cs := []) (xs := (ks.map Value.string).take a) rfl rfl rfl rfl (by kernel_rfl) (by kernel_rfl) rfl (by decide) (by first | exact I1.out.own | exact I2.out.1.own | exact I3.out.1.own) (by first | exact hR1.on I1.out.low | exact hR1.on I2.out.1.low | exact hR1.on I3.out.1.low) hone1 (by rw [hlt1]; omega) (by first | exact I1.out.low.size | exact I2.out.1.low.size | exact I3.out.1.low.size) ?_; intro v1 W1 h1 h2 h3; have HV1 := Lib.hid h1; have HL1 := Lib.hid (show Below w7.heap.size w7 W1 by first | exact I1.out.low.trans h2 | exact I2.out.1.low.trans h2 | exact I3.out.1.low.trans h2); (first | have HG1 := Lib.hid (ins_grown I2.out.1 (by exact h3) I2.out.2 (by omega)) | have HG1 := Lib.hid (ins_grown I3.out.1 (by exact h3) I3.out.2 (by omega)) | skip); clear h1 h2 h3)
              | (refine step_append_row (t := 63) (e := 9) (bytes := 16) (z := .string ⟨#[]⟩) (B := w7.heap.size) (n := 0 + ((ks.map Value.string).take a).length) (cs := [] ++ (ks.map Value.string).take a) (xs := [Value.string kk]) rfl rfl rfl rfl (by kernel_rfl) (by kernel_rfl) rfl (by decide) (by first | exact HV1.out | exact oc_alloc HV1.out _) (by first | exact rd_blk HG1.out | exact rd_blk (Blk.fresh W1 9 #[Value.string kk])) hone3 (by rw [hlt1, List.length_singleton]; omega) (by first | exact HL1.out.size | exact (HL1.out.alloc HL1.out.size _).size) ?_; intro v2 W2 h1 h2 h3; have HV2 := Lib.hid h1; have HL2 := Lib.hid (show Below w7.heap.size w7 W2 by first | exact HL1.out.trans h2 | exact (HL1.out.alloc HL1.out.size _).trans h2); clear h1 h2 h3)
              | (refine step_append_row (t := 63) (e := 9) (bytes := 16) (z := .string ⟨#[]⟩) (B := w7.heap.size) (n := 0 + ((ks.map Value.string).take a).length + [Value.string kk].length) (cs := [] ++ (ks.map Value.string).take a ++ [Value.string kk]) (xs := (ks.map Value.string).drop a) rfl rfl rfl rfl (by kernel_rfl) (by kernel_rfl) rfl (by decide) (by exact HV2.out) (by exact HY2.out.on HL2.out) hone2 (by rw [hlt1, hlt2, List.length_singleton]; omega) (by exact HL2.out.size) ?_; intro v3 W3 h1 h2 h3; have HV3 := Lib.hid h1; have HL3 := Lib.hid (show Below w7.heap.size w7 W3 from HL2.out.trans h2); clear h1 h2 h3) | fail))
            all_goals
              have hsz7 := HB7.out.size
              have HK9 := Lib.hid (show W3.ownsRow w.heap.size 9 1 v3 (j + 1) ((insAt a kk ks).map Value.string) by
                have h1 := oc_less HV3.out (B' := w.heap.size) (by omega)
                rw [hlt1, hlt2, List.length_singleton, show 0 + a + 1 + (j - a) = j + 1 by have := HPJ.out; omega] at h1
                unfold insAt
                simpa [List.map_take, List.map_drop] using h1)
              have HO8 := Lib.hid (show W3.ownsRow w.heap.size 3 1 u3 j (os.map (Value.int .i64)) by
                have h1 := HO7.out.below HL3.out
                unfold Own at h1
                rwa [HLO.out] at h1)
              have HB8 := Lib.hid (HB7.out.trans (HL3.out.mono HB7.out.size))
              clear hlt1 hlt2 hone1 hone2 hone3 I1 I2 I3 HV1 HV2 HV3 HL1 HL2 HL3 HY2 hR1 sl1 sl2 HO7 HK7 HB7
              (try clear HG1)
              obtain ⟨w8, rfl⟩ : ∃ w8, w8 = W3 := ⟨_, rfl⟩
              obtain ⟨keys', rfl⟩ : ∃ v, v = v3 := ⟨_, rfl⟩
              go_wp2_with fail
              obtain ⟨AO, co, rfl, hk1, hk2, hk3, hk4⟩ := oc_form HO8.out
              have sl1 := fun w => run_lessA (P := Tryz.prog) (t := 40) (elem := 3) (sz := 1) (by kernel_rfl) (by kernel_rfl) w AO (fun p hp => (hk4 p hp).imp fun _ h => h.1) j co a (by have := HPJ.out; omega)
              have sl2 := fun w => run_cutK (P := Tryz.prog) (t := 40) (elem := 3) (sz := 1) (by kernel_rfl) (by kernel_rfl) w AO j co a a rfl HPJ.out
              obtain ⟨y2, hy2⟩ : ∃ y2, Value.slice (if co = a then AO else AO.map (·.add (a * 1))) (j - a) (co - a) = y2 := ⟨_, rfl⟩
              have HY2 := Lib.hid (hy2 ▸ rd_tail HO8.out HPJ.out)
              rw [hy2] at sl2
              clear hy2 hk1 hk2 hk3 hk4
              have hR1 := rd_head HO8.out HPJ.out
              have hlt1 : ((os.map (Value.int .i64)).take a).length = a := by rw [List.length_take, List.length_map, HLO.out]; have := HPJ.out; omega
              have hlt2 : ((os.map (Value.int .i64)).drop a).length = j - a := by rw [List.length_drop, List.length_map, HLO.out]
              have hone1 : ∀ u ∈ (os.map (Value.int .i64)).take a, u.oneCell' = true := fun u hu => ints_one _ u (List.mem_of_mem_take hu)
              have hone2 : ∀ u ∈ (os.map (Value.int .i64)).drop a, u.oneCell' = true := fun u hu => ints_one _ u (List.mem_of_mem_drop hu)
              have hone3 : ∀ v ∈ [Value.int .i64 (u : Int)], v.oneCell' = true := fun v hu => by rw [List.mem_singleton] at hu; subst hu; rfl
              have I1 := Lib.hid (ins0 w8 3 (.int .i64 (u : Int)))
              have I2 := Lib.hid (ins01 w8 3 (.int .i64 (u : Int)))
              have I3 := Lib.hid (ins10 w8 3 (.int .i64 (u : Int)))
              go_region_law ((first
                | (refine step_append_row (t := 40) (e := 3) (bytes := 8) (z := .int .i64 0) (B := w8.heap.size) (n := 0) (cs := []) (xs := (os.map (Value.int .i64)).take a) rfl rfl rfl rfl (by kernel_rfl) (by kernel_rfl) rfl (by decide) (by first | exact I1.out.own | exact I2.out.1.own | exact I3.out.1.own) (by first | exact hR1.on I1.out.low | exact hR1.on I2.out.1.low | exact hR1.on I3.out.1.low) hone1 (by rw [hlt1]; omega) (by first | exact I1.out.low.size | exact I2.out.1.low.size | exact I3.out.1.low.size) ?_; intro v1 W1 h1 h2 h3; have HV1 := Lib.hid h1; have HL1 := Lib.hid (show Below w8.heap.size w8 W1 by first | exact I1.out.low.trans h2 | exact I2.out.1.low.trans h2 | exact I3.out.1.low.trans h2); (first | have HG1 := Lib.hid (ins_grown I2.out.1 (by exact h3) I2.out.2 (by omega)) | have HG1 := Lib.hid (ins_grown I3.out.1 (by exact h3) I3.out.2 (by omega)) | skip); clear h1 h2 h3)
                | (refine step_append_row (t := 40) (e := 3) (bytes := 8) (z := .int .i64 0) (B := w8.heap.size) (n := 0 + ((os.map (Value.int .i64)).take a).length) (cs := [] ++ (os.map (Value.int .i64)).take a) (xs := [Value.int .i64 (u : Int)]) rfl rfl rfl rfl (by kernel_rfl) (by kernel_rfl) rfl (by decide) (by first | exact HV1.out | exact oc_alloc HV1.out _) (by first | exact rd_blk HG1.out | exact rd_blk (Blk.fresh W1 3 #[Value.int .i64 (u : Int)])) hone3 (by rw [hlt1, List.length_singleton]; omega) (by first | exact HL1.out.size | exact (HL1.out.alloc HL1.out.size _).size) ?_; intro v2 W2 h1 h2 h3; have HV2 := Lib.hid h1; have HL2 := Lib.hid (show Below w8.heap.size w8 W2 by first | exact HL1.out.trans h2 | exact (HL1.out.alloc HL1.out.size _).trans h2); clear h1 h2 h3)
                | (refine step_append_row (t := 40) (e := 3) (bytes := 8) (z := .int .i64 0) (B := w8.heap.size) (n := 0 + ((os.map (Value.int .i64)).take a).length + [Value.int .i64 (u : Int)].length) (cs := [] ++ (os.map (Value.int .i64)).take a ++ [Value.int .i64 (u : Int)]) (xs := (os.map (Value.int .i64)).drop a) rfl rfl rfl rfl (by kernel_rfl) (by kernel_rfl) rfl (by decide) (by exact HV2.out) (by exact HY2.out.on HL2.out) hone2 (by rw [hlt1, hlt2, List.length_singleton]; omega) (by exact HL2.out.size) ?_; intro v3 W3 h1 h2 h3; have HV3 := Lib.hid h1; have HL3 := Lib.hid (show Below w8.heap.size w8 W3 from HL2.out.trans h2); clear h1 h2 h3) | fail))
              all_goals
                have HO9 := Lib.hid (show Own W3 w.heap.size .i64 3 v3 (insAt a ((2 * j : Nat) : Int) os) by
                  have h1 := oc_less HV3.out (B' := w.heap.size) (by have := HB8.out.size; omega)
                  rw [hlt1, hlt2, List.length_singleton, show 0 + a + 1 + (j - a) = j + 1 by have := HPJ.out; omega] at h1
                  unfold Own insAt
                  rw [HU.out]
                  have e1 : (os.take a ++ [(u : Int)] ++ os.drop a).length = j + 1 := by have := length_insAt a (u : Int) os; unfold insAt at this; rw [this, HLO.out]
                  rw [e1]
                  simpa [List.map_take, List.map_drop] using h1)
                have HK10 := Lib.hid (oc_on HK9.out HL3.out)
                have HB9 := Lib.hid (HB8.out.trans (HL3.out.mono HB8.out.size))
                clear hlt1 hlt2 hone1 hone2 hone3 I1 I2 I3 HV1 HV2 HV3 HL1 HL2 HL3 HY2 hR1 sl1 sl2 HO8 HK9 HB8
                (try clear HG1)
                go_wp2_with fail
                go_roundw
                case rel => exact ⟨j + 1, by have := HU.out; omega, by congr 1; have := HU.out; omega, Lib.hid (by rw [HST.out]; exact HO9.out), Lib.hid (by rw [HST.out]; exact HK10.out), Lib.hid (HB.out.trans (HB9.out.mono HB.out.size))⟩
                case measure => simp [intOf]; have := HU.out; omega
          · have hajI : ¬ ((a : Int) < j) := by omega
            obtain ⟨q2, hq2⟩ : ∃ q2, q = q2 := ⟨_, rfl⟩
            rw [hq2]
            go_wp2_with fail
            have HK7 := Lib.hid (oc_drewN HK6.out q2)
            have HO7 := Lib.hid (HO6.out.drewN q2)
            have HB7 := Lib.hid (below_drawnN HB6.out q2)
            generalize w6.drewN q2 = w7 at *
            have hap2 : a ≤ 1099511628 := by have := HPJ.out; have := HU.out; omega
            have hjp2 : j - a ≤ 1099511628 := by have := HU.out; omega
            obtain ⟨AK', ck', hv, hk1, hk2, hk3, hk4⟩ := oc_form HK7.out
            injection hv with hv1 hv2 hv3
            subst hv1 hv3
            have sl1 := fun w => run_lessA (P := Tryz.prog) (t := 63) (elem := 9) (sz := 1) (by kernel_rfl) (by kernel_rfl) w AK (fun p hp => (hk4 p hp).imp fun _ h => h.1) j ck a (by have := HPJ.out; omega)
            have sl2 := fun w => run_cutK (P := Tryz.prog) (t := 63) (elem := 9) (sz := 1) (by kernel_rfl) (by kernel_rfl) w AK j ck a a rfl HPJ.out
            obtain ⟨y2, hy2⟩ : ∃ y2, Value.slice (if ck = a then AK else AK.map (·.add (a * 1))) (j - a) (ck - a) = y2 := ⟨_, rfl⟩
            have HY2 := Lib.hid (hy2 ▸ rd_tail HK7.out HPJ.out)
            rw [hy2] at sl2
            clear hy2 hk1 hk2 hk3 hk4
            have hR1 := rd_head HK7.out HPJ.out
            have hlt1 : ((ks.map Value.string).take a).length = a := by rw [List.length_take, List.length_map, HLK.out]; have := HPJ.out; omega
            have hlt2 : ((ks.map Value.string).drop a).length = j - a := by rw [List.length_drop, List.length_map, HLK.out]
            have hone1 : ∀ u ∈ (ks.map Value.string).take a, u.oneCell' = true := fun u hu => strs_one _ u (List.mem_of_mem_take hu)
            have hone2 : ∀ u ∈ (ks.map Value.string).drop a, u.oneCell' = true := fun u hu => strs_one _ u (List.mem_of_mem_drop hu)
            have hone3 : ∀ u ∈ [Value.string kk], u.oneCell' = true := fun u hu => by rw [List.mem_singleton] at hu; subst hu; rfl
            have I1 := Lib.hid (ins0 w7 9 (.string kk))
            have I2 := Lib.hid (ins01 w7 9 (.string kk))
            have I3 := Lib.hid (ins10 w7 9 (.string kk))
            go_region_law ((first
              | (refine step_append_row (t := 63) (e := 9) (bytes := 16) (z := .string ⟨#[]⟩) (B := w7.heap.size) (n := 0) (cs := []) (xs := (ks.map Value.string).take a) rfl rfl rfl rfl (by kernel_rfl) (by kernel_rfl) rfl (by decide) (by first | exact I1.out.own | exact I2.out.1.own | exact I3.out.1.own) (by first | exact hR1.on I1.out.low | exact hR1.on I2.out.1.low | exact hR1.on I3.out.1.low) hone1 (by rw [hlt1]; omega) (by first | exact I1.out.low.size | exact I2.out.1.low.size | exact I3.out.1.low.size) ?_; intro v1 W1 h1 h2 h3; have HV1 := Lib.hid h1; have HL1 := Lib.hid (show Below w7.heap.size w7 W1 by first | exact I1.out.low.trans h2 | exact I2.out.1.low.trans h2 | exact I3.out.1.low.trans h2); (first | have HG1 := Lib.hid (ins_grown I2.out.1 (by exact h3) I2.out.2 (by omega)) | have HG1 := Lib.hid (ins_grown I3.out.1 (by exact h3) I3.out.2 (by omega)) | skip); clear h1 h2 h3)
              | (refine step_append_row (t := 63) (e := 9) (bytes := 16) (z := .string ⟨#[]⟩) (B := w7.heap.size) (n := 0 + ((ks.map Value.string).take a).length) (cs := [] ++ (ks.map Value.string).take a) (xs := [Value.string kk]) rfl rfl rfl rfl (by kernel_rfl) (by kernel_rfl) rfl (by decide) (by first | exact HV1.out | exact oc_alloc HV1.out _) (by first | exact rd_blk HG1.out | exact rd_blk (Blk.fresh W1 9 #[Value.string kk])) hone3 (by rw [hlt1, List.length_singleton]; omega) (by first | exact HL1.out.size | exact (HL1.out.alloc HL1.out.size _).size) ?_; intro v2 W2 h1 h2 h3; have HV2 := Lib.hid h1; have HL2 := Lib.hid (show Below w7.heap.size w7 W2 by first | exact HL1.out.trans h2 | exact (HL1.out.alloc HL1.out.size _).trans h2); clear h1 h2 h3)
              | (refine step_append_row (t := 63) (e := 9) (bytes := 16) (z := .string ⟨#[]⟩) (B := w7.heap.size) (n := 0 + ((ks.map Value.string).take a).length + [Value.string kk].length) (cs := [] ++ (ks.map Value.string).take a ++ [Value.string kk]) (xs := (ks.map Value.string).drop a) rfl rfl rfl rfl (by kernel_rfl) (by kernel_rfl) rfl (by decide) (by exact HV2.out) (by exact HY2.out.on HL2.out) hone2 (by rw [hlt1, hlt2, List.length_singleton]; omega) (by exact HL2.out.size) ?_; intro v3 W3 h1 h2 h3; have HV3 := Lib.hid h1; have HL3 := Lib.hid (show Below w7.heap.size w7 W3 from HL2.out.trans h2); clear h1 h2 h3) | fail))
            all_goals
              have hsz7 := HB7.out.size
              have HK9 := Lib.hid (show W3.ownsRow w.heap.size 9 1 v3 (j + 1) ((insAt a kk ks).map Value.string) by
                have h1 := oc_less HV3.out (B' := w.heap.size) (by omega)
                rw [hlt1, hlt2, List.length_singleton, show 0 + a + 1 + (j - a) = j + 1 by have := HPJ.out; omega] at h1
                unfold insAt
                simpa [List.map_take, List.map_drop] using h1)
              have HO8 := Lib.hid (show W3.ownsRow w.heap.size 3 1 u3 j (os.map (Value.int .i64)) by
                have h1 := HO7.out.below HL3.out
                unfold Own at h1
                rwa [HLO.out] at h1)
              have HB8 := Lib.hid (HB7.out.trans (HL3.out.mono HB7.out.size))
              clear hlt1 hlt2 hone1 hone2 hone3 I1 I2 I3 HV1 HV2 HV3 HL1 HL2 HL3 HY2 hR1 sl1 sl2 HO7 HK7 HB7
              (try clear HG1)
              obtain ⟨w8, rfl⟩ : ∃ w8, w8 = W3 := ⟨_, rfl⟩
              obtain ⟨keys', rfl⟩ : ∃ v, v = v3 := ⟨_, rfl⟩
              go_wp2_with fail
              obtain ⟨AO, co, rfl, hk1, hk2, hk3, hk4⟩ := oc_form HO8.out
              have sl1 := fun w => run_lessA (P := Tryz.prog) (t := 40) (elem := 3) (sz := 1) (by kernel_rfl) (by kernel_rfl) w AO (fun p hp => (hk4 p hp).imp fun _ h => h.1) j co a (by have := HPJ.out; omega)
              have sl2 := fun w => run_cutK (P := Tryz.prog) (t := 40) (elem := 3) (sz := 1) (by kernel_rfl) (by kernel_rfl) w AO j co a a rfl HPJ.out
              obtain ⟨y2, hy2⟩ : ∃ y2, Value.slice (if co = a then AO else AO.map (·.add (a * 1))) (j - a) (co - a) = y2 := ⟨_, rfl⟩
              have HY2 := Lib.hid (hy2 ▸ rd_tail HO8.out HPJ.out)
              rw [hy2] at sl2
              clear hy2 hk1 hk2 hk3 hk4
              have hR1 := rd_head HO8.out HPJ.out
              have hlt1 : ((os.map (Value.int .i64)).take a).length = a := by rw [List.length_take, List.length_map, HLO.out]; have := HPJ.out; omega
              have hlt2 : ((os.map (Value.int .i64)).drop a).length = j - a := by rw [List.length_drop, List.length_map, HLO.out]
              have hone1 : ∀ u ∈ (os.map (Value.int .i64)).take a, u.oneCell' = true := fun u hu => ints_one _ u (List.mem_of_mem_take hu)
              have hone2 : ∀ u ∈ (os.map (Value.int .i64)).drop a, u.oneCell' = true := fun u hu => ints_one _ u (List.mem_of_mem_drop hu)
              have hone3 : ∀ v ∈ [Value.int .i64 (u : Int)], v.oneCell' = true := fun v hu => by rw [List.mem_singleton] at hu; subst hu; rfl
              have I1 := Lib.hid (ins0 w8 3 (.int .i64 (u : Int)))
              have I2 := Lib.hid (ins01 w8 3 (.int .i64 (u : Int)))
              have I3 := Lib.hid (ins10 w8 3 (.int .i64 (u : Int)))
              go_region_law ((first
                | (refine step_append_row (t := 40) (e := 3) (bytes := 8) (z := .int .i64 0) (B := w8.heap.size) (n := 0) (cs := []) (xs := (os.map (Value.int .i64)).take a) rfl rfl rfl rfl (by kernel_rfl) (by kernel_rfl) rfl (by decide) (by first | exact I1.out.own | exact I2.out.1.own | exact I3.out.1.own) (by first | exact hR1.on I1.out.low | exact hR1.on I2.out.1.low | exact hR1.on I3.out.1.low) hone1 (by rw [hlt1]; omega) (by first | exact I1.out.low.size | exact I2.out.1.low.size | exact I3.out.1.low.size) ?_; intro v1 W1 h1 h2 h3; have HV1 := Lib.hid h1; have HL1 := Lib.hid (show Below w8.heap.size w8 W1 by first | exact I1.out.low.trans h2 | exact I2.out.1.low.trans h2 | exact I3.out.1.low.trans h2); (first | have HG1 := Lib.hid (ins_grown I2.out.1 (by exact h3) I2.out.2 (by omega)) | have HG1 := Lib.hid (ins_grown I3.out.1 (by exact h3) I3.out.2 (by omega)) | skip); clear h1 h2 h3)
                | (refine step_append_row (t := 40) (e := 3) (bytes := 8) (z := .int .i64 0) (B := w8.heap.size) (n := 0 + ((os.map (Value.int .i64)).take a).length) (cs := [] ++ (os.map (Value.int .i64)).take a) (xs := [Value.int .i64 (u : Int)]) rfl rfl rfl rfl (by kernel_rfl) (by kernel_rfl) rfl (by decide) (by first | exact HV1.out | exact oc_alloc HV1.out _) (by first | exact rd_blk HG1.out | exact rd_blk (Blk.fresh W1 3 #[Value.int .i64 (u : Int)])) hone3 (by rw [hlt1, List.length_singleton]; omega) (by first | exact HL1.out.size | exact (HL1.out.alloc HL1.out.size _).size) ?_; intro v2 W2 h1 h2 h3; have HV2 := Lib.hid h1; have HL2 := Lib.hid (show Below w8.heap.size w8 W2 by first | exact HL1.out.trans h2 | exact (HL1.out.alloc HL1.out.size _).trans h2); clear h1 h2 h3)
                | (refine step_append_row (t := 40) (e := 3) (bytes := 8) (z := .int .i64 0) (B := w8.heap.size) (n := 0 + ((os.map (Value.int .i64)).take a).length + [Value.int .i64 (u : Int)].length) (cs := [] ++ (os.map (Value.int .i64)).take a ++ [Value.int .i64 (u : Int)]) (xs := (os.map (Value.int .i64)).drop a) rfl rfl rfl rfl (by kernel_rfl) (by kernel_rfl) rfl (by decide) (by exact HV2.out) (by exact HY2.out.on HL2.out) hone2 (by rw [hlt1, hlt2, List.length_singleton]; omega) (by exact HL2.out.size) ?_; intro v3 W3 h1 h2 h3; have HV3 := Lib.hid h1; have HL3 := Lib.hid (show Below w8.heap.size w8 W3 from HL2.out.trans h2); clear h1 h2 h3) | fail))
              all_goals
                have HO9 := Lib.hid (show Own W3 w.heap.size .i64 3 v3 (insAt a ((2 * j : Nat) : Int) os) by
                  have h1 := oc_less HV3.out (B' := w.heap.size) (by have := HB8.out.size; omega)
                  rw [hlt1, hlt2, List.length_singleton, show 0 + a + 1 + (j - a) = j + 1 by have := HPJ.out; omega] at h1
                  unfold Own insAt
                  rw [HU.out]
                  have e1 : (os.take a ++ [(u : Int)] ++ os.drop a).length = j + 1 := by have := length_insAt a (u : Int) os; unfold insAt at this; rw [this, HLO.out]
                  rw [e1]
                  simpa [List.map_take, List.map_drop] using h1)
                have HK10 := Lib.hid (oc_on HK9.out HL3.out)
                have HB9 := Lib.hid (HB8.out.trans (HL3.out.mono HB8.out.size))
                clear hlt1 hlt2 hone1 hone2 hone3 I1 I2 I3 HV1 HV2 HV3 HL1 HL2 HL3 HY2 hR1 sl1 sl2 HO8 HK9 HB8
                (try clear HG1)
                go_wp2_with fail
                go_roundw
                case rel => exact ⟨j + 1, by have := HU.out; omega, by congr 1; have := HU.out; omega, Lib.hid (by rw [HST.out]; exact HO9.out), Lib.hid (by rw [HST.out]; exact HK10.out), Lib.hid (HB.out.trans (HB9.out.mono HB.out.size))⟩
                case measure => simp [intOf]; have := HU.out; omega
    · have hltI : ¬ (((2 * j : Nat) : Int) + 1 < m) := by omega
      obtain ⟨u, hu⟩ : ∃ u, 2 * j = u := ⟨_, rfl⟩
      have hj2 : m / 2 = j := by omega
      rw [hu] at hltI ⊢
      have huI : (u : Int) < 1099511628 := by omega
      clear hj hlt hu
      go_wp2_with fail
      go_ret
      exact ⟨_, rfl, HO.out, HB.out⟩
end Go.Proofs.YtgcgidoikpbfpaaGreat
