/- The document's Items, Great, Depth. -/
import Derived.Test.YtgbbgdjdomkohaaKAH
namespace Go.Proofs.Ytgbbgdjdomkohaa
open Go.RowKit

def its (x : It) (d : Nat) : List It := (x.items d).map (·.2)
def itsL (l : List It) (d : Nat) : List It := (itemsL l d).map (·.2)
def deps (x : It) (d : Nat) : List Int := (x.items d).map fun p => (p.1 : Int)
def depsL (l : List It) (d : Nat) : List Int := (itemsL l d).map fun p => (p.1 : Int)
theorem its_eq (x : It) (d : Nat) : its x d = x :: itsL x.l (d + 1) := by simp [its, itsL, It.items_eq]
theorem deps_eq (x : It) (d : Nat) : deps x d = (d : Int) :: depsL x.l (d + 1) := by simp [deps, depsL, It.items_eq]
theorem itsL_take {l : List It} {k : Nat} {X : It} (h : l[k]? = some X) (d : Nat) : itsL (l.take (k + 1)) d = itsL (l.take k) d ++ its X d := by
  have hk : k < l.length := by
    rcases Nat.lt_or_ge k l.length with h' | h'
    · exact h'
    · rw [List.getElem?_eq_none h'] at h; cases h
  rw [List.getElem?_eq_getElem hk] at h
  injection h with h
  rw [List.take_succ_eq_append_getElem hk, itsL, itemsL_append, List.map_append, h]
  simp [itemsL, its, itsL]
theorem depsL_take {l : List It} {k : Nat} {X : It} (h : l[k]? = some X) (d : Nat) : depsL (l.take (k + 1)) d = depsL (l.take k) d ++ deps X d := by
  have hk : k < l.length := by
    rcases Nat.lt_or_ge k l.length with h' | h'
    · exact h'
    · rw [List.getElem?_eq_none h'] at h; cases h
  rw [List.getElem?_eq_getElem hk] at h
  injection h with h
  rw [List.take_succ_eq_append_getElem hk, depsL, itemsL_append, List.map_append, h]
  simp [itemsL, deps, depsL]
theorem length_its (x : It) (d : Nat) : (its x d).length = x.count := by rw [its, List.length_map, It.length_items]
theorem length_deps (x : It) (d : Nat) : (deps x d).length = x.count := by rw [deps, List.length_map, It.length_items]
theorem length_itsL (l : List It) (d : Nat) : (itsL l d).length = countL l := by rw [itsL, List.length_map, length_itemsL]
theorem length_depsL (l : List It) (d : Nat) : (depsL l d).length = countL l := by rw [depsL, List.length_map, length_itemsL]
theorem count_pos (x : It) : 0 < x.count := by rw [It.count_eq]; omega
theorem countL_take_le (l : List It) (k : Nat) : countL (l.take k) ≤ countL l := by
  conv => rhs; rw [← List.take_append_drop k l, countL_append]
  omega
/-- What Items hands back. -/
def ItemsPost (x : It) (n d B : Nat) (w' : World) (v1 v2 : Value) : Prop := OwnI w' n B v1 (its x d) ∧ Own w' B .i64 3 v2 (deps x d)
theorem own_ne {w : World} {B B' : Nat} {v1 v2 : Value} {c1 c2 : List Value} {n1 n2 s1 s2 : Nat} (h1 : w.ownsRow B 40 s1 v1 n1 c1) (h2 : w.ownsRow B' 3 s2 v2 n2 c2) : v1.ownBlock = none ∨ v1.ownBlock ≠ v2.ownBlock := by
  rcases h1.2 with ⟨rfl, _⟩ | ⟨g, cap, cur, rfl, _, hh, _⟩
  · left; rfl
  · right
    rcases h2.2 with ⟨rfl, _⟩ | ⟨g', cap', cur', rfl, _, hh', _⟩
    · simp [Value.ownBlock]
    · intro e
      have e' : g = g' := by simpa [Value.ownBlock] using e
      subst e'
      rw [hh] at hh'
      injection hh' with hh'
      injection hh' with _ hh' _
      cases hh'

theorem countL_take_succ {l : List It} {k : Nat} {X : It} (h : l[k]? = some X) : countL (l.take k) + X.count = countL (l.take (k + 1)) := by
  have e := congrArg List.length (itsL_take h 0)
  rw [List.length_append, length_itsL, length_itsL, length_its] at e
  exact e.symm
theorem ne_flip {a b : Option Nat} (h : a = none ∨ a ≠ b) : b = none ∨ b ≠ a := by
  rcases h with rfl | h
  · by_cases hb : b = none
    · exact .inl hb
    · exact .inr hb
  · exact .inr fun e => h e.symm
theorem intInfo : (Try.prog.info? 3).map (fun i => (i.zero, i.size, i.bytes)) = some (some (.int .i64 0), 1, 8) := by kernel_rfl
theorem items_step {wr w3 : World} {n B d j : Nat} {l : List It} {x X : It} {dd : Int} {v1 v2 v1' v2' : Value} (hl : l[j]? = some X) (h1 : OwnI wr n B v1 (x :: itsL (l.take j) (d + 1))) (h2 : Own wr B .i64 3 v2 (dd :: depsL (l.take j) (d + 1)))
    (hp : ItemsPost X n (d + 1) wr.heap.size w3 v1' v2') (hb3 : Below wr.heap.size wr w3) (hB : B ≤ wr.heap.size) (hn : n ≤ B) (hs : countL l + 1 ≤ 1099511627776) :
    ∃ v1'' w4 v2'' w5, (Builtin.append_ #[38, 38] 38 #[v1, v1']).run Try.prog w3 = .ok v1'' w4 ∧ (Builtin.append_ #[35, 35] 35 #[v2, v2']).run Try.prog w4 = .ok v2'' w5 ∧
      OwnI w5 n B v1'' (x :: itsL (l.take (j + 1)) (d + 1)) ∧ Own w5 B .i64 3 v2'' (dd :: depsL (l.take (j + 1)) (d + 1)) ∧ Below B wr w5 := by
  have hsz := hb3.size
  have hle : countL (l.take j) + X.count ≤ countL l := by rw [countL_take_succ hl]; exact countL_take_le _ _
  have k1 := h1.keepB hb3 (by omega)
  have k2 := h2.below hb3
  obtain ⟨v1'', w4, r1, o1, b4, g4⟩ := run_append_items (ty := 38) k1 hp.1 (by rw [length_its]; exact count_pos X) (by rw [length_its, List.length_cons, length_itsL]; omega) (by omega) hn
  obtain ⟨cs, q1, _⟩ := k1
  have m2 : Own w4 B .i64 3 v2 (dd :: depsL (l.take j) (d + 1)) := World.ownsRow.kept k2 g4 (ne_flip (own_ne q1 k2))
  have m3 : Own w4 wr.heap.size .i64 3 v2' (deps X (d + 1)) := World.ownsRow.kept hp.2 g4 (ne_flip (own_ne q1 hp.2))
  have hsz4 := b4.size
  obtain ⟨A2, cap2, rfl, c1, c2, c3, c4, c5⟩ := m3.form
  obtain ⟨v2'', w5, r2, o2, b5, g5⟩ := run_append_nums (P := Try.prog) (t := 35) (ty := 35) (bytes := 8) (by kernel_rfl) intInfo (by omega) m2 c5 c3 (by rw [length_deps, List.length_cons, length_depsL]; omega) (by omega)
  have hne : v1''.ownBlock = none ∨ v1''.ownBlock ≠ v2.ownBlock := by obtain ⟨_, q, _⟩ := o1; exact own_ne q m2
  have e1 := itsL_take hl (d + 1)
  have e2 := depsL_take hl (d + 1)
  refine ⟨v1'', w4, v2'', w5, r1, r2, ?_, ?_, ?_⟩
  · rw [e1]
    exact o1.kept g5 (b5.mono hn) hne.symm
  · rw [e2]
    exact o2
  · exact (hb3.mono hB).trans (b4.trans b5)

set_option maxRecDepth 100000 in
set_option maxHeartbeats 2000000 in
theorem ref_Items : ∀ (c : Nat) (x : It) (A : Option Addr) (cap n d : Nat) (w : World), x.count ≤ c → d + c ≤ 1099511627776 → n ≤ w.heap.size → AtB w n x A cap →
    Calls Try.prog 25 #[vI x A cap, .int .i64 (d : Int)] w fun e w' => ∃ v1 v2, e = .returned (.tuple #[v1, v2]) ∧ ItemsPost x n d w.heap.size w' v1 v2 ∧ Below w.heap.size w w' := by
  intro c
  induction c with
  | zero => intro x A cap n d w h; have := count_pos x; omega
  | succ c ih =>
    intro x A cap n d w hc hd hn h
    simp only [vI] at ih
    have IH := Lib.hid ih
    clear ih
    obtain ⟨k, nn, s, l⟩ := x
    obtain ⟨w1, hw1, b1, S⟩ := iblk1 w 40 #[.int .i64 k, .int .u64 nn, .string s, .slice A l.length cap]
    obtain ⟨p0, p1, p2, p3, -⟩ := iblk b1
    have hcl : countL l ≤ c := by simp only [It.count] at hc; omega
    have HN := Lib.hid hn
    have hsz1 : w1.heap.size = w.heap.size + 1 := by rw [← hw1]; simp
    have H1 := Lib.hid (h.keep (S.mono hn))
    have HS := Lib.hid S
    have HC := Lib.hid (fun _ : Unit => And.intro hcl hd)
    have HCX : RowKit.Hid (∀ X, X ∈ l → X.count ≤ c) := Lib.hid fun X hX => Nat.le_trans (count_le_of_mem hX) hcl
    have hml : (l.length : Int) < 1099511627776 := by have := length_le_countL l; omega
    have hdl : (d : Int) < 1099511627776 := by omega
    have hd0 : (0 : Int) ≤ d := by omega
    obtain ⟨dd, hdd⟩ : ∃ dd : Int, (d : Int) = dd := ⟨_, rfl⟩
    have HDD := Lib.hid hdd
    rw [hdd] at hdl hd0 ⊢
    clear h S hc hd hn hcl b1 hdd
    go_enter Try.func25, Try.ntmps25
    simp only [vI, It.k, It.n, It.s, It.l]
    obtain ⟨m, hm⟩ : ∃ m, l.length = m := ⟨_, rfl⟩
    rw [hm] at hw1 p3 hml ⊢
    have HM := Lib.hid hm
    clear hm
    go_wp2_with fail
    clear hw1
    have HG := Lib.hid (block_lt_of_cell p0)
    have HSZ := Lib.hid hsz1
    generalize hgg : w.heap.size = g at *
    have HGG := Lib.hid hgg
    clear hgg hsz1
    obtain ⟨w2, hw2, O1, O2, S2⟩ : ∃ w2, (w1.alloc (.cells #[.int .i64 k, .int .u64 nn, .string s, .slice A m cap] 40)).alloc (.cells #[.int .i64 dd] 3) = w2 ∧
        OwnI w2 n w1.heap.size (.slice (some ⟨g + 1, 0, none⟩) 1 1) [It.mk k nn s l] ∧ Own w2 w1.heap.size .i64 3 (.slice (some ⟨g + 1 + 1, 0, none⟩) 1 1) [dd] ∧ Below w1.heap.size w1 w2 := by
      have hS := (below_alloc w1 (.cells #[.int .i64 k, .int .u64 nn, .string s, .slice A m cap] 40)).alloc (by simp) (.cells #[.int .i64 dd] 3)
      have hnn : n ≤ w1.heap.size := by have := HN.out; have := HSZ.out; omega
      refine ⟨_, rfl, ⟨_, by rw [← HSZ.out]; exact oc_alloc (oc_new w1 w1.heap.size 40 4 1 #[.int .i64 k, .int .u64 nn, .string s, .slice A m cap] rfl (Nat.le_refl _) (by unfold maxLen; omega)) _, ?_⟩, ?_, hS⟩
      · have hl := Lay.one (H1.out.keep (hS.mono hnn))
        rw [show ic (It.mk k nn s l) A cap = [.int .i64 k, .int .u64 nn, .string s, .slice A m cap] by rw [← HM.out]; rfl] at hl
        exact hl
      · have hb := Blk.fresh (w1.alloc (.cells #[.int .i64 k, .int .u64 nn, .string s, .slice A m cap] 40)) 3 #[.int .i64 dd]
        rw [World.size_alloc, HSZ.out] at hb
        exact Own.ofBlk (zs := [dd]) hb (by rw [HSZ.out]; omega) (by unfold maxLen; simp)
    rw [hw2]
    clear hw2
    have HO1 := Lib.hid O1
    have HO2 := Lib.hid O2
    have HS2 := Lib.hid S2
    clear O1 O2 S2
    go_loopw [6, 7, 8] (fun v1 v2 i wr => ∃ j : Nat, j ≤ m ∧ i = .int .i64 (j : Int) ∧ RowKit.Hid (OwnI wr n w1.heap.size v1 (It.mk k nn s l :: itsL (l.take j) (d + 1))) ∧ RowKit.Hid (Own wr w1.heap.size .i64 3 v2 (dd :: depsL (l.take j) (d + 1))) ∧ RowKit.Hid (Below w1.heap.size w1 wr)) (fun _ _ i _ => m - (intOf i).toNat)
    case atStart => exact ⟨0, by omega, rfl, HO1, HO2, HS2⟩
    case round =>
      obtain ⟨j, hj, rfl, HV1, HV2, HB⟩ := hrel
      have p3' := (HB.out.cell (p := ⟨g, 3, none⟩) HG.out).trans p3
      by_cases hlt : j < m
      · obtain ⟨i1, o1, X, A1', c1', rfl, hbn, hb1, hX, mX, x0, x1, x2, x3, hx⟩ := (H1.out.keep (HB.out.mono (by have := HN.out; have := HSZ.out; omega))).item (i := j) (by show j < l.length; rw [HM.out]; exact hlt)
        have hcc := IH.out X A1' c1' n (d + 1) wr (HCX.out X mX) (by have := (HC.out ()).2; omega) (by have := HN.out; have := HSZ.out; have := HB.out.size; omega) hx
        have hd1 : ((d + 1 : Nat) : Int) = dd + 1 := by have := HDD.out; omega
        rw [hd1] at hcc
        have HX := Lib.hid (show l[j]? = some X from hX)
        have HCC := Lib.hid hcc
        have HMX := Lib.hid (show X ∈ l from mX)
        clear hx hX hcc mX hd1 hbn
        have HST := Lib.hid (fun w3 v1' v2' (h1 : ItemsPost X n (d + 1) wr.heap.size w3 v1' v2') (h2 : Below wr.heap.size wr w3) => items_step HX.out HV1.out HV2.out h1 h2 HB.out.size (by have := HN.out; have := HSZ.out; omega) (by have := HC.out (); omega))
        go_wp2_with (first
          | (go_at_call 25; refine HCC.out.mono ?_; rintro e w3 ⟨v1', v2', rfl, hp, hb3⟩; obtain ⟨v1'', w4, v2'', w5, r1, r2, o1, o2, b5⟩ := HST.out w3 v1' v2' hp hb3; have HR1 := Lib.hid r1; have HR2 := Lib.hid r2; have HO1' := Lib.hid o1; have HO2' := Lib.hid o2; have HB5 := Lib.hid b5; clear hp hb3 r1 r2 o1 o2 b5)
          | ((with_reducible refine is_append 38 rfl ?_); (with_reducible refine wpList_append_run rfl rfl HR1.out ?_ ?_ ?_); (· rfl); (· rfl))
          | ((with_reducible refine is_append 35 rfl ?_); (with_reducible refine wpList_append_run rfl rfl HR2.out ?_ ?_ ?_); (· rfl); (· rfl)))
        go_roundw
        case rel => exact ⟨j + 1, by omega, by simp, HO1', HO2', Lib.hid (HB.out.trans HB5.out)⟩
        case measure => simp [intOf]; omega
      · obtain rfl : j = m := by omega
        go_wp2_with fail
        refine bodyPost_ret (results_tmp2 rfl _ _ _) rfl ?_
        have ht : l.take j = l := by rw [← HM.out, List.take_length]
        have h1 := HV1.out
        have h2 := HV2.out
        rw [ht] at h1 h2
        refine ⟨_, _, rfl, ⟨?_, ?_⟩, ?_⟩
        · rw [its_eq]; exact h1.less (by have := HSZ.out; have := HGG.out; omega)
        · rw [deps_eq, HDD.out]; exact oc_less h2 (by have := HSZ.out; have := HGG.out; omega)
        · rw [HGG.out]; exact HS.out.trans (HB.out.mono (by have := HG.out; omega))
end Go.Proofs.Ytgbbgdjdomkohaa
