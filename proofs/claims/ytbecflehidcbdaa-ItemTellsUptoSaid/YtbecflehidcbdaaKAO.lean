/- Package item: Copy. -/
import Derived.Test.YtbecflehidcbdaaKAN
namespace Go.Proofs.Ytbecflehidcbdaa
open Go.RowKit

theorem kids_take {l : List It} {j : Nat} {X : It} (h : l[j]? = some X) : kids (l.take (j + 1)) = kids (l.take j) ++ (if X.l.isEmpty then [] else [X.l]) := by
  rw [(take_at h).1, kids_append, kids_one]
theorem kids_length (l : List It) : (kids l).length ≤ l.length := by
  unfold kids
  rw [List.length_map]
  exact List.length_filter_le _ _
theorem stSize_len (ps : List (List It)) : ps.length ≤ stSize ps := by
  induction ps with
  | nil => simp [stSize]
  | cons p r ih => simp only [List.length_cons, stSize]; omega
theorem copy_room (T U : List (Nat × List It)) (g : Nat) (l : List It) (j : Nat) (hU : U.map (·.2) = kids (l.take j)) : (T ++ U).length + 1 ≤ stSize ((T ++ [(g, l)]).map (·.2)).reverse := by
  have h1 := stSize_len (T.map (·.2))
  have h2 := congrArg List.length hU
  have h3 := kids_length (l.take j)
  have h4 := length_le_countL l
  rw [List.length_take] at h3
  rw [List.length_map] at h1 h2
  rw [stSize_reverse, List.map_append, stSize_append, List.length_append]
  simp only [List.map_cons, List.map_nil, stSize]
  omega

/-- A copy begins. -/
theorem copy_start {w w1 w2 : World} {n b1 : Nat} {v : Value} {l : List It} {k0 n0 s0 a0 : Value} {c2 : Array Value} (hs1 : w1.heap.size = b1 + 2) (hS : Below b1 w w1) (hn : n ≤ b1) (hk1 : Blk w1 b1 25 #[k0, n0, s0, a0]) (hk2 : Blk w1 (b1 + 1) 25 c2)
    (ho : OwnI w2 n w1.heap.size v l) (hb : Below w1.heap.size w1 w2) :
    ∃ A cap M T w3 w4, v = .slice A l.length cap ∧ l.length ≤ cap ∧ (A = none → cap = 0) ∧ w2.cell? ⟨b1, 3, none⟩ = some a0 ∧ w2.frozen? ⟨b1, 3, none⟩ = false ∧ w2.setCell ⟨b1, 3, none⟩ v = w3 ∧ Blk w3 b1 25 #[k0, n0, s0, v] ∧ w3.alloc (.cells #[v] 23) = w4 ∧
      Blk w4 b1 25 #[k0, n0, s0, v] ∧ Blk w4 (b1 + 1) 25 c2 ∧ CS w4 w4 n (b1 + 2) M (.slice (some ⟨w3.heap.size, 0, none⟩) 1 1) T (fun b _ => b ∈ T.map (·.1)) l A ∧ T.map (·.2) = [l] ∧ Below b1 w w4 ∧ b1 + 2 ≤ w4.heap.size := by
  rw [hs1] at ho hb
  have hsz2 := hb.size
  have k2 : Blk w2 b1 25 #[k0, n0, s0, a0] := hk1.below hb (by omega)
  have k2' : Blk w2 (b1 + 1) 25 c2 := hk2.below hb (by omega)
  have k3 := k2.put 3 v
  have k3' := k2'.far (p := ⟨b1, 3, none⟩) (by show b1 + 1 ≠ b1; omega) v
  have o3 : OwnI (w2.setCell ⟨b1, 3, none⟩ v) n (b1 + 2) v l := by
    obtain ⟨cs, o, y⟩ := ho
    refine ⟨cs, oc_keep o fun i hi _ => ?_, y.keep ((Below.refl n w2).setCell (p := ⟨b1, 3, none⟩) hn v)⟩
    exact Below.heap_setCell w2 ⟨b1, 3, none⟩ v i (by show i ≠ b1; omega)
  have hform : ∃ A cap, v = .slice A l.length cap ∧ l.length ≤ cap ∧ (A = none → cap = 0) := by
    obtain ⟨cs0, o, _⟩ := ho
    obtain ⟨A, cap, e1, e2, _, e4, _⟩ := oc_form o
    exact ⟨A, cap, e1, e2, e4⟩
  obtain ⟨A, cap, ev, hv1, hv2⟩ := hform
  have hb3 : Below b1 w (w2.setCell ⟨b1, 3, none⟩ v) := hS.trans ((hb.mono (by omega)).trans ((Below.refl b1 w2).setCell (p := ⟨b1, 3, none⟩) (Nat.le_refl _) v))
  have hsz3 : (w2.setCell ⟨b1, 3, none⟩ v).heap.size = w2.heap.size := by simp [World.setCell]
  generalize hw3 : w2.setCell ⟨b1, 3, none⟩ v = w3 at *
  have S4 := below_alloc w3 (.cells #[v] 23)
  have hb4 := hb3.trans (S4.mono (by omega))
  have hs4 := S4.size
  have k4 := k3.on S4
  have k4' := k3'.on S4
  have se : ∀ g, (l = [] ∨ A = some ⟨g, 0, none⟩) → OwnG SE (w3.alloc (.cells #[v] 23)) (b1 + 2) 23 1 (.slice (some ⟨w3.heap.size, 0, none⟩) 1 1) [(g, l)] := fun g hg =>
    OwnG.fresh w3 (b1 + 2) 23 1 #[v] ⟨A, cap, by rw [ev], hv1, hg⟩ rfl (by omega)
  by_cases hl : l = []
  · refine ⟨A, cap, fun _ => none, [(b1, l)], w3, _, ev, hv1, hv2, by rw [k2.cell]; rfl, k2.free 3, rfl, k3, rfl, k4, k4', ⟨se b1 (.inl hl), Inv.start0 _ _ _ _, by simp, fun r hr => ?_, .inl hl, Below.refl _ _⟩, rfl, hb4, by omega⟩
    rw [List.mem_singleton] at hr
    subst hr
    exact .inl ⟨hl, by show b1 < b1 + 2; omega⟩
  · obtain ⟨g, cap', ev', _, hgB, hI⟩ := Inv.one o3 hl
    have hA : A = some ⟨g, 0, none⟩ := by
      rw [ev] at ev'
      injection ev'
    refine ⟨A, cap, _, [(g, l)], w3, _, ev, hv1, hv2, by rw [k2.cell]; rfl, k2.free 3, rfl, k3, rfl, k4, k4', ⟨se g (.inr hA), (hI.on S4 (by omega)).congr fun b l' i _ _ => ?_, by simp, fun r hr => ?_, .inr ⟨g, hA, by simp⟩, Below.refl _ _⟩, rfl, hb4, by omega⟩
    · simp
    · rw [List.mem_singleton] at hr
      subst hr
      exact .inr (by simp)

theorem Inv.less {w : World} {n B B' : Nat} {M : Nat → Option (List It)} {P : Nat → Nat → Prop} (h : Inv w n B M P) (hB : B' ≤ B) : Inv w n B' M P := fun g l hg => ⟨Nat.le_trans hB (h g l hg).1, (h g l hg).2⟩
/-- The topmost list is taken. -/
theorem CS.pop {w wr : World} {n B g : Nat} {M : Nat → Option (List It)} {v0 v : Value} {T : List (Nat × List It)} {root l : List It} {A : Option Addr} (h : CS w wr n B M v0 (T ++ [(g, l)]) (fun b _ => b ∈ (T ++ [(g, l)]).map (·.1)) root A) (ho : OwnG SE wr B 23 1 v T) :
    CS w wr n B M v (T ++ []) (fun b i => b ∈ (T ++ ([] : List (Nat × List It))).map (fun r => r.1) ∨ (b = g ∧ 0 ≤ i)) root A ∧ g ∉ (T ++ ([] : List (Nat × List It))).map (fun r => r.1) ∧ ((l = [] ∧ g < B) ∨ M g = some l) := by
  have hnd := h.nod
  rw [List.map_append, List.nodup_append] at hnd
  rw [List.append_nil]
  refine ⟨⟨ho, h.inv.congr fun b l' i _ _ => ?_, hnd.1, fun r hr => h.tc r (by simp [hr]), h.root, h.bel⟩, fun hg => hnd.2.2 g hg g (by simp) rfl, h.tc (g, l) (by simp)⟩
  simp
/-- All items of a list have new lists. -/
theorem CS.done {w wr : World} {n B g j : Nat} {M : Nat → Option (List It)} {v : Value} {T : List (Nat × List It)} {root l : List It} {A : Option Addr} (h : CS w wr n B M v T (fun b i => b ∈ T.map (·.1) ∨ (b = g ∧ j ≤ i)) root A) (hg : (l = [] ∧ g < B) ∨ M g = some l) (hj : l.length = j) :
    CS w wr n B M v T (fun b _ => b ∈ T.map (·.1)) root A := h.congr fun b l' i hb hi => by
  constructor
  · rintro (p | ⟨rfl, p⟩)
    · exact p
    · exfalso
      rcases hg with ⟨_, hg⟩ | hg
      · have := (h.inv _ _ hb).1; omega
      · rw [hg] at hb
        injection hb with hb
        subst hb
        omega
  · exact .inl
theorem CS.item {w wr : World} {n B g j : Nat} {M : Nat → Option (List It)} {v : Value} {T : List (Nat × List It)} {root l : List It} {A : Option Addr} {X : It} (h : CS w wr n B M v T (fun b i => b ∈ T.map (·.1) ∨ (b = g ∧ j ≤ i)) root A) (hg : M g = some l) (hX : l[j]? = some X) :
    ∃ A0 cap0, wr.cell? ⟨g, j * 4 + 3, none⟩ = some (.slice A0 X.l.length cap0) ∧ wr.frozen? ⟨g, j * 4 + 3, none⟩ = false ∧ g < wr.heap.size ∧ RL wr n X.l A0 cap0 := by
  obtain ⟨_, ⟨cs, h2, _⟩, h3⟩ := h.inv g l hg
  obtain ⟨A0, cap0, _, _, _, c3, _, _, e3, _⟩ := h3 j X hX
  exact ⟨A0, cap0, c3, h2.free _, h2.lt, e3 (.inr ⟨rfl, Nat.le_refl _⟩)⟩

set_option maxRecDepth 100000 in
set_option maxHeartbeats 4000000 in
theorem item_Copy (x : It) (A : Option Addr) (cap n : Nat) (w : World) (hc : x.count ≤ 1099511627775) (hn : n ≤ w.heap.size) (h : AtB w n x A cap) :
    Calls Try.prog 19 #[vI x A cap] w fun e w' => ∃ A' cap', e = .returned (vI x A' cap') ∧ Cpd w' n w.heap.size x.l A' cap' ∧ Below w.heap.size w w' := by
  obtain ⟨w1, hw1, b1, b2, S⟩ := iblk2 w 25 #[.int .i64 x.k, .int .u64 x.n, .string x.s, .slice A x.l.length cap] #[.int .i64 0, .int .u64 0, .string ⟨#[]⟩, .slice none 0 0]
  obtain ⟨p0, p1, p2, p3, pf⟩ := iblk b1
  have C := items_clone x.l A cap n w1 (by have := length_le_countL x.l; rw [It.count_eq] at hc; omega) (Nat.le_trans hn S.size) (h.keep (S.mono hn)).rl
  have hs1 : w1.heap.size = w.heap.size + 2 := by rw [← hw1]; simp
  have HS := Lib.hid S
  have HB1 := Lib.hid b1
  have HB2 := Lib.hid b2
  have HC := Lib.hid (fun _ : Unit => hc)
  have HN := Lib.hid hn
  have HCL := Lib.hid C
  have HS1 := Lib.hid hs1
  clear h S b1 b2 hn hc C hs1
  go_enter Try.func19, Try.ntmps19
  simp only [vI]
  go_wp2_with (go_at_call 26; refine HCL.out.mono ?_; rintro e w2 ⟨v, rfl, ho, hb⟩; obtain ⟨A', cap', M, T, w3, w4, rfl, hv1, hv2, z0, zf, hw3, k3, hw4, k4, k4', hcs, hT, hB4, hsz4⟩ := copy_start HS1.out HS.out HN.out HB1.out HB2.out ho hb; obtain ⟨r0, r1, r2, r3, -⟩ := iblk k3; have HV := Lib.hid (And.intro hv1 hv2); have HK4 := Lib.hid k4; have HK4' := Lib.hid k4'; have HCS := Lib.hid hcs; have HT := Lib.hid hT; have HB4 := Lib.hid hB4; have HZ4 := Lib.hid hsz4; clear ho hb hv1 hv2 k3 k4 k4' hcs hT hB4 hsz4)
  clear hw1 hw3 hw4 p0 p1 p2 p3 pf z0 zf r0 r1 r2 r3
  have HX0 : RowKit.Hid (stSize (T.map (·.2)).reverse = x.count) := Lib.hid (by rw [HT.out, It.count_eq]; simp [stSize])
  clear HT HCL HB1 HB2 HS HS1
  generalize hb1 : w.heap.size = b1 at *
  have HBE := Lib.hid hb1
  clear hb1
  go_loopg [3] (x.count) (fun gk v wr => ∃ M T, RowKit.Hid (CS w4 wr n (b1 + 2) M v T (fun b _ => b ∈ T.map (·.1)) x.l A') ∧ RowKit.Hid (stSize (T.map (·.2)).reverse = gk) ∧ RowKit.Hid (∀ _ : Unit, gk ≤ x.count))
  case atStart => exact ⟨M, T, HCS, HX0, Lib.hid fun _ => Nat.le_refl _⟩
  case round =>
    clear HCS HX0
    obtain ⟨M, T, HC1, HZ, HGK⟩ := hrel
    rcases List.eq_nil_or_concat T with rfl | ⟨T', ⟨g, l⟩, rfl⟩
    · obtain ⟨A0, cap0, rfl, hle, hcap, hnil, hA⟩ := HC1.out.own.form
      have k1 := HK4.out.below HC1.out.bel (by omega)
      have k2 := HK4'.out.below HC1.out.bel (by omega)
      obtain ⟨r0, r1, r2, r3, -⟩ := iblk k1
      have HSR := Lib.hid (run_store_all (P := Try.prog) (ty := 25) (c' := #[.int .i64 x.k, .int .u64 x.n, .string x.s, .slice A' x.l.length cap']) k2 (by kernel_rfl) rfl (by simp [Value.oneCell']))
      have k5 := k2.setRow #[.int .i64 x.k, .int .u64 x.n, .string x.s, .slice A' x.l.length cap']
      have O5 := (Only.refl (b1 + 1) wr).setRow #[.int .i64 x.k, .int .u64 x.n, .string x.s, .slice A' x.l.length cap']
      have HBW := Lib.hid (HB4.out.trans (HC1.out.bel.mono (show b1 ≤ b1 + 2 by omega)))
      generalize wr.setRow (b1 + 1) #[.int .i64 x.k, .int .u64 x.n, .string x.s, .slice A' x.l.length cap'] = w5 at *
      have HK5 := Lib.hid k5
      have HO5 := Lib.hid O5
      clear hnil hA k1 k2 k5 O5
      go_wp2_with ((with_reducible refine is_store 25 rfl ?_); (with_reducible refine wpList_store_run rfl rfl HSR.out ?_ ?_ ?_); (· rfl); (· rfl))
      refine bodyPost_ret (results_blk rfl _ (by rfl) HK5.out Try.underlying25 rfl (by kernel_rfl)) rfl ?_
      have hbe := HBE.out
      have hno := HN.out
      have hsw := HC1.out.bel.size
      have hzz := HZ4.out
      refine ⟨A', cap', rfl, ⟨HV.out.1, HV.out.2, M, ?_, HC1.out.root⟩, ?_⟩
      · refine ((HC1.out.inv.congr (Q := fun _ _ => False) fun b l' i _ _ => by simp).moved (fun g l hg => ?_) (HO5.out.below (by omega) (by omega))).less (by omega)
        obtain ⟨h1, ⟨cs, h2, _⟩, _⟩ := HC1.out.inv g l hg
        exact HO5.out.block g h2.lt fun e => by injection e with e; omega
      · rw [HBE.out]
        exact HBW.out.trans (HO5.out.below (by omega) (by omega))
    · rw [List.concat_eq_append] at *
      obtain ⟨gs, cap0, rfl, hle, hcap, hgB, hgs⟩ := HC1.out.own.head (by simp)
      obtain ⟨c, ⟨B1, d1, rfl, r1, r2⟩, hcells, HO'⟩ := HC1.out.own.top SE.len
      obtain ⟨m, hm⟩ : ∃ m, T'.length = m := ⟨_, rfl⟩
      have hlen : (T' ++ [(g, l)]).length = m + 1 := by rw [← hm]; simp
      rw [hlen] at hle ⊢
      rw [hm] at hcells HO'
      have t0 := hcells 0 _ rfl
      have hless := fun W => run_less (P := Try.prog) (t := 47) (elem := 23) (by kernel_rfl) sizeList W gs (m + 1) cap0 m (m : Int) rfl (by omega)
      have hmb : (m : Int) < 1099511627776 := by
        have e1 := copy_room T' [] g l 0 (by simp [kids])
        have e2 := HC.out ()
        have e3 := HGK.out ()
        rw [HZ.out, List.append_nil, hm] at e1
        omega
      have hsub : (m : Int) + 1 - 1 = m := by omega
      have HM := Lib.hid hm
      have HR1 := Lib.hid (And.intro r1 r2)
      have HO2 := Lib.hid HO'
      clear hcells HO' hm hlen r1 r2
      simp only [Nat.add_zero, Nat.mul_one] at t0
      go_wp2_with fail
      obtain ⟨HP1, HP2, HP3⟩ := HC1.out.pop HO2.out
      have HP1 := Lib.hid HP1
      have HP2 := Lib.hid HP2
      have HP3 := Lib.hid HP3
      have HGS := Lib.hid HC1.out.bel.size
      obtain ⟨ll, hll⟩ : ∃ ll, l.length = ll := ⟨_, rfl⟩
      rw [hll]
      have HLL := Lib.hid hll
      have HLB := Lib.hid (fun _ : Unit => (show ((ll : Int) < 1099511627776) ∧ countL l ≤ 1099511627775 by
        have e2 := HC.out ()
        have e3 := HGK.out ()
        have e4 := HZ.out
        have e5 := length_le_countL l
        rw [stSize_reverse, List.map_append, stSize_append] at e4
        simp only [List.map_cons, List.map_nil, stSize] at e4
        omega))
      clear hll hmb hsub hless t0 hle hcap hgB hgs
      go_loopw [3, 29] (fun v i wi => ∃ (j : Nat) (M : Nat → Option (List It)) (U : List (Nat × List It)), j ≤ ll ∧ i = .int .i64 (j : Int) ∧ RowKit.Hid (CS w4 wi n (b1 + 2) M v (T' ++ U) (fun b i => b ∈ (T' ++ U).map (·.1) ∨ (b = g ∧ j ≤ i)) x.l A') ∧ RowKit.Hid (U.map (·.2) = kids (l.take j)) ∧
        RowKit.Hid (g ∉ (T' ++ U).map (·.1)) ∧ RowKit.Hid ((l = [] ∧ g < b1 + 2) ∨ M g = some l)) (fun _ i _ => ll - (intOf i).toNat)
      case atStart => exact ⟨0, M, [], by omega, rfl, HP1, Lib.hid (by simp [kids]), HP2, HP3⟩
      case round =>
        obtain ⟨j, M, U, hj, rfl, HCI, HU, HNT, HMG⟩ := hrel
        by_cases hlt : j < ll
        · obtain ⟨X, hX⟩ : ∃ X, l[j]? = some X := ⟨_, List.getElem?_eq_getElem (by rw [HLL.out]; exact hlt)⟩
          have hMG : M g = some l := by
            rcases HMG.out with ⟨e, _⟩ | e
            · exfalso
              have := HLL.out
              rw [e] at this
              simp at this
              omega
            · exact e
          obtain ⟨A0, cap2, c3, fz, hgw, hrl⟩ := HCI.out.item hMG hX
          have hB1 : B1 = some ⟨g, 0, none⟩ := by
            rcases HR1.out.2 with e | e
            · exfalso
              have := HLL.out
              rw [show l = [] from e] at this
              simp at this
              omega
            · exact e
          subst hB1
          have hXl : X.l.length ≤ 1099511627775 := by
            have h1 := count_le_of_mem (List.mem_of_getElem? hX)
            have h2 := (HLB.out ()).2
            have h3 := length_le_countL X.l
            rw [It.count_eq] at h1
            omega
          have hBW : b1 + 2 ≤ wr.heap.size := Nat.le_trans HZ4.out HCI.out.bel.size
          have hnB : n ≤ b1 + 2 := by have := HN.out; omega
          have C := items_clone X.l A0 cap2 n wr hXl (Nat.le_trans hnB hBW) hrl
          have hroom : (T' ++ U).length + 1 ≤ 1099511627776 := by
            have e1 := copy_room T' U g l j HU.out
            have e2 := HC.out ()
            have e3 := HGK.out ()
            rw [HZ.out] at e1
            omega
          have RND := fun w5 u (ho : OwnI w5 n wr.heap.size u X.l) (hb : Below wr.heap.size wr w5) => HCI.out.round hMG hX HNT.out ho hb hnB hBW hroom
          have HKT := Lib.hid (kids_take hX)
          have e1 : wrap64 ((j : Int) + 1) = (j : Int) + 1 := by have := (HLB.out ()).1; unfold wrap64; omega
          obtain ⟨r, hr⟩ : ∃ r, X.l.length = r := ⟨_, rfl⟩
          rw [hr] at c3
          simp only [hr] at RND C
          have HR := Lib.hid hr
          have HC5 := Lib.hid C
          have HRND := Lib.hid RND
          clear C RND hrl hXl hBW hnB hroom hX hMG hr
          by_cases hz : r = 0
          · as_aux_lemma =>
            subst hz
            have hXe : X.l = [] := List.eq_nil_of_length_eq_zero HR.out
            have HXE := Lib.hid hXe
            clear hXe
            go_wp2_with (go_at_call 26; refine HC5.out.mono ?_; rintro e w5 ⟨u, rfl, ho, hb⟩; have c5 := (hb.cell (p := ⟨g, j * 4 + 3, none⟩) hgw).trans c3; have f5 := (World.frozen?_of_block (a := ⟨g, j * 4 + 3, none⟩) (hb.block g hgw)).trans fz; obtain ⟨A1, cap1, M', w6, rfl, hw6, hc6, hg6, hE, -⟩ := HRND.out w5 u ho hb; have HE := Lib.hid (hE HXE.out); have HG6 := Lib.hid hg6; clear ho hb hE hg6)
            rw [e1]
            go_roundw
            case rel => exact ⟨j + 1, M', U, by omega, by simp, HE, Lib.hid (by rw [HKT.out, HXE.out]; simpa using HU.out), HNT, Lib.hid (.inr HG6.out)⟩
            case measure => simp [intOf]; omega
          · as_aux_lemma =>
            have hpos : (0 : Int) < r := by omega
            have hXe : X.l ≠ [] := fun e => hz (by rw [← HR.out, e]; rfl)
            have HXE := Lib.hid hXe
            clear hXe hz
            go_wp2_with (first
              | (go_at_call 26; refine HC5.out.mono ?_; rintro e w5 ⟨u, rfl, ho, hb⟩; have c5 := (hb.cell (p := ⟨g, j * 4 + 3, none⟩) hgw).trans c3; have f5 := (World.frozen?_of_block (a := ⟨g, j * 4 + 3, none⟩) (hb.block g hgw)).trans fz; obtain ⟨A1, cap1, M', w6, rfl, hw6, hc6, hg6, -, hNE⟩ := HRND.out w5 u ho hb; obtain ⟨w7, v', w8, g', hw7, hrun, hcs8, hnt8⟩ := hNE HXE.out; have HRUN := Lib.hid hrun; have HCS8 := Lib.hid hcs8; have HNT8 := Lib.hid hnt8; have HG6 := Lib.hid hg6; clear ho hb hNE hg6 hrun hcs8 hnt8)
              | ((with_reducible refine is_append 47 rfl ?_); (with_reducible refine wpList_append_run rfl rfl HRUN.out ?_ ?_ ?_); (· rfl); (· rfl)))
            rw [e1]
            go_roundw
            case rel =>
              refine ⟨j + 1, M', U ++ [(g', X.l)], by omega, by simp, Lib.hid ?_, Lib.hid ?_, Lib.hid ?_, Lib.hid (.inr HG6.out)⟩
              · rw [← List.append_assoc]; exact HCS8.out
              · rw [List.map_append, HU.out, HKT.out]
                have : X.l.isEmpty = false := by
                  cases hq : X.l.isEmpty
                  · rfl
                  · exact absurd (List.isEmpty_iff.1 hq) HXE.out
                rw [this]
                rfl
              · rw [← List.append_assoc]; exact HNT8.out
            case measure => simp [intOf]; omega
        · obtain rfl : j = ll := by omega
          go_wp2_with fail
          have hU := HU.out
          rw [← HLL.out, List.take_length] at hU
          have hst : stSize ((T' ++ U).map (·.2)).reverse < stSize ((T' ++ [(g, l)]).map (·.2)).reverse := by
            simp only [List.map_append, List.map_cons, List.map_nil, List.reverse_append, List.reverse_cons, List.reverse_nil, List.nil_append, List.cons_append]
            rw [hU]
            exact stSize_push l _
          go_roundg (stSize ((T' ++ U).map (·.2)).reverse)
          case rel =>
            refine ⟨M, T' ++ U, Lib.hid (HCI.out.done HMG.out HLL.out), Lib.hid rfl, Lib.hid fun _ => ?_⟩
            have h2 := HGK.out ()
            have h3 := HZ.out
            omega
          case measure =>
            have h3 := HZ.out
            omega
end Go.Proofs.Ytbecflehidcbdaa
