/- Package item: All. -/
import Derived.Test.YtgcgidoikpbfpaaKBA
import Derived.Shelf.SlGeneric
import Derived.Ground.SlsfProg
import Derived.Shelf.SlLaysF0
import Derived.Shelf.SlLaysF
import Derived.Test.YtgcgidoikpbfpaaProg
import Derived.Test.YtgcgidoikpbfpaaKAV
import Derived.Shelf.SlSortCmp.WholeK
namespace Go.Proofs.Ytgcgidoikpbfpaa
open Go.RowKit Go.Shelf
attribute [local go_sem] Oper.semAt_some

/-- How deep all stand, in all. -/
def tdSum {w : World} {n : Nat} {X0 : It} (pre : List (TD w n X0)) : Nat := (pre.map fun z => z.1.d).sum
def deepSum (x : It) : Nat := ((x.items 1).map (·.1)).sum
theorem tdSum_snoc {w : World} {n : Nat} {X0 : It} (pre : List (TD w n X0)) (z : TD w n X0) : tdSum (pre ++ [z]) = tdSum pre + z.1.d := by simp [tdSum]
theorem tdSum_all {w : World} {n : Nat} {X0 : It} {xs : List (TD w n X0)} {x : It} (h : xs.map tdOf = x.items 1) : tdSum xs = deepSum x := by
  unfold tdSum deepSum
  rw [← h, List.map_map]
  rfl
theorem tdSum_pre {w : World} {n : Nat} {X0 : It} {pre : List (TD w n X0)} {x : It} (h : pre.map tdOf <+: x.items 1) : tdSum pre ≤ deepSum x := by
  obtain ⟨r, hr⟩ := h
  unfold tdSum deepSum
  rw [← hr, List.map_append, List.sum_append, List.map_map]
  exact Nat.le_add_right _ _
theorem Cpd.atB {w : World} {n B : Nat} {x : It} {A : Option Addr} {cap : Nat} (h : Cpd w n B x.l A cap) : AtB w w.heap.size x A cap :=
  AtV.toB ⟨h.1, h.2.1, h.at.more fun _ _ => trivial⟩

end Go.Proofs.Ytgcgidoikpbfpaa

/- Package item: what All hands back. -/
namespace Go.Proofs.Ytgcgidoikpbfpaa
open Go.RowKit Go.Shelf
attribute [local go_sem] Oper.semAt_some

def toldV (z : Told) : Array Value := #[.int .i64 (z.d : Int), vI z.t z.A z.cap]
def toldOf (z : Told) : Nat × It := (z.d, z.t)
/-- How it lies in memory. -/
def OkT (B : Nat) (z : Told) (W : World) : Prop := z.t.l.length ≤ z.cap ∧ (z.A = none → z.cap = 0) ∧ AtL W (B ≤ ·) z.t.l z.A
theorem told_size (z : Told) : (toldV z).size = 2 := rfl

end Go.Proofs.Ytgcgidoikpbfpaa

/- Where the library's bodies lie in this program. -/
namespace Go.Proofs.Ytgcgidoikpbfpaa
open Go.Shelf
def Try.sortItems_ren : Go.Shelf.Ren := ⟨fun | 6 => 30 | 15 => 39 | 14 => 38 | 28 => 57 | 29 => 58 | 20 => 49 | 21 => 50 | 22 => 51 | 23 => 52 | 24 => 53 | 25 => 54 | 26 => 55 | 27 => 56 | 46 => 70 | 47 => 71 | 48 => 72 | 49 => 73 | 50 => 74 | 57 => 83 | n => n, fun | 22 => 23 | 24 => 25 | 25 => 60 | 3 => 3 | 39 => 72 | 0 => 0 | 53 => 91 | 55 => 22 | 4 => 4 | 46 => 84 | 45 => 83 | 50 => 88 | 5 => 5 | 9 => 9 | 66 => 102 | 70 => 106 | 76 => 113 | 77 => 114 | n => n, fun | n => n⟩
theorem Try.sortItems : Go.Proofs.SlLaysF0.n6 Try.prog Try.sortItems_ren := {
  mixed := by kernel_rfl
  f6 := ⟨Try.f30.name, by decide, Try.func30.trans (congrArg some (by kernel_rfl))⟩
  f14 := ⟨Try.f38.name, by decide, Try.func38.trans (congrArg some (by kernel_rfl))⟩
  f15 := Try.func39.trans (congrArg some (by kernel_rfl))
  f20 := ⟨Try.f49.name, by decide, Try.func49.trans (congrArg some (by kernel_rfl))⟩
  f21 := ⟨Try.f50.name, by decide, Try.func50.trans (congrArg some (by kernel_rfl))⟩
  f22 := ⟨Try.f51.name, by decide, Try.func51.trans (congrArg some (by kernel_rfl))⟩
  f23 := ⟨Try.f52.name, by decide, Try.func52.trans (congrArg some (by kernel_rfl))⟩
  f24 := ⟨Try.f53.name, by decide, Try.func53.trans (congrArg some (by kernel_rfl))⟩
  f25 := ⟨Try.f54.name, by decide, Try.func54.trans (congrArg some (by kernel_rfl))⟩
  f26 := ⟨Try.f55.name, by decide, Try.func55.trans (congrArg some (by kernel_rfl))⟩
  f27 := ⟨Try.f56.name, by decide, Try.func56.trans (congrArg some (by kernel_rfl))⟩
  f28 := Try.func57.trans (congrArg some (by kernel_rfl))
  f29 := Try.func58.trans (congrArg some (by kernel_rfl))
  f46 := ⟨Try.f70.name, by decide, Try.func70.trans (congrArg some (by kernel_rfl))⟩
  f47 := Try.func71.trans (congrArg some (by kernel_rfl))
  f48 := Try.func72.trans (congrArg some (by kernel_rfl))
  f49 := ⟨Try.f73.name, by decide, Try.func73.trans (congrArg some (by kernel_rfl))⟩
  f50 := ⟨Try.f74.name, by decide, Try.func74.trans (congrArg some (by kernel_rfl))⟩
  f57 := ⟨Try.f83.name, by decide, Try.func83.trans (congrArg some (by kernel_rfl))⟩
  t0 := Try.underlying0
  a0 := Try.isAgg0
  z0 := Try.sizeOf0
  v0 := Try.zeroValue0
  t3 := Try.underlying3
  a3 := Try.isAgg3
  z3 := Try.sizeOf3
  v3 := Try.zeroValue3
  t4 := Try.underlying4
  a4 := Try.isAgg4
  z4 := Try.sizeOf4
  v4 := Try.zeroValue4
  t5 := Try.underlying5
  a5 := Try.isAgg5
  z5 := Try.sizeOf5
  v5 := Try.zeroValue5
  t9 := Try.underlying9
  a9 := Try.isAgg9
  z9 := Try.sizeOf9
  v9 := Try.zeroValue9
  t22 := Try.underlying23
  a22 := Try.isAgg23
  z22 := Try.sizeOf23
  v22 := Try.zeroValue23
  t25 := Try.underlying60
  a25 := Try.isAgg60
  z25 := Try.sizeOf60
  v25 := Try.zeroValue60
  t39 := Try.underlying72
  a39 := Try.isAgg72
  z39 := Try.sizeOf72
  v39 := Try.zeroValue72
  t45 := Try.underlying83
  a45 := Try.isAgg83
  z45 := Try.sizeOf83
  v45 := Try.zeroValue83
  t46 := Try.underlying84
  a46 := Try.isAgg84
  z46 := Try.sizeOf84
  v46 := Try.zeroValue84
  t50 := Try.underlying88
  a50 := Try.isAgg88
  z50 := Try.sizeOf88
  v50 := Try.zeroValue88
  t53 := Try.underlying91
  a53 := Try.isAgg91
  z53 := Try.sizeOf91
  v53 := Try.zeroValue91
  t55 := Try.underlying22
  a55 := Try.isAgg22
  z55 := Try.sizeOf22
  v55 := Try.zeroValue22
  t66 := Try.underlying102
  a66 := Try.isAgg102
  z66 := Try.sizeOf102
  v66 := Try.zeroValue102
  t70 := Try.underlying106
  a70 := Try.isAgg106
  z70 := Try.sizeOf106
  v70 := Try.zeroValue106
  t76 := Try.underlying113
  a76 := Try.isAgg113
  z76 := Try.sizeOf113
  v76 := Try.zeroValue113
  t77 := Try.underlying114
  a77 := Try.isAgg114
  z77 := Try.sizeOf114
  v77 := Try.zeroValue114 }
end Go.Proofs.Ytgcgidoikpbfpaa

/- slices.SortFunc over items: what the library says of it, in terms of items. -/
namespace Go.Proofs.Ytgcgidoikpbfpaa
open Go.RowKit Go.Sort

/-- An item with the place of its list, below block n of w. -/
structure IE (w : World) (n : Nat) where
  it : It
  A : Option Addr
  cap : Nat
  at_ : AtB w n it A cap
  le : it.count ≤ 1099511627775
instance instIE (w : World) (n : Nat) : Inhabited (IE w n) := ⟨⟨.mk 0 0 ⟨#[]⟩ [], none, 0, ⟨Nat.le_refl _, fun _ => rfl, AtL.nil _⟩, by rw [It.count_eq]; simp [It.l, countL]⟩⟩
section
variable {w w' : World} {n : Nat}
def ienc (x : IE w n) : List Value := ic x.it x.A x.cap
def icf (x y : IE w n) : Int := itC x.it y.it
theorem ienc_len (x : IE w n) : (ienc x).length = 4 := rfl
theorem swo_icf : SWO (Go.Proofs.ltOf (icf (w := w) (n := n))) where
  irrefl x := by unfold Go.Proofs.ltOf icf; rw [itC_cmp.refl]; rfl
  trans x y z h1 h2 := by
    unfold Go.Proofs.ltOf icf at *
    simp only [decide_eq_true_eq] at *
    exact itC_cmp.tr _ _ _ h1 h2
  ntrans x y z h1 h2 := by
    unfold Go.Proofs.ltOf icf at *
    simp only [decide_eq_false_iff_not, Int.not_lt] at *
    have a1 := itC_cmp.anti x.it y.it
    have a2 := itC_cmp.anti y.it z.it
    have a3 := itC_cmp.anti x.it z.it
    have := itC_cmp.le_trans (x := z.it) (y := y.it) (z := x.it) (by omega) (by omega)
    omega
/-- Cells of items, as a list of items with their places. -/
theorem lay_ie : ∀ {its : List It} {cs : List Value}, Lay w n its cs → (∀ t ∈ its, t.count ≤ 1099511627775) → ∃ l : List (IE w n), l.map IE.it = its ∧ l.flatMap ienc = cs
  | [], cs, h, _ => ⟨[], rfl, (show cs = [] from h).symm⟩
  | t :: r, cs, ⟨A, cap, c, e, h1, h2⟩, hc => by
    obtain ⟨l, e1, e2⟩ := lay_ie h2 fun t ht => hc t (List.mem_cons_of_mem _ ht)
    exact ⟨⟨t, A, cap, h1, hc t (List.mem_cons_self ..)⟩ :: l, by rw [List.map_cons, e1], by rw [List.flatMap_cons, e2, e]; rfl⟩
theorem flat_get : ∀ (l : List (IE w n)) (j : Nat), j < l.length * 4 → (l.flatMap ienc)[j]! = (ienc l.toArray[j / 4]!)[j % 4]!
  | [], j, h => by simp at h
  | x :: l, j, h => by
    rw [List.flatMap_cons]
    by_cases hj : j < 4
    · rw [Nat.div_eq_of_lt hj, Nat.mod_eq_of_lt hj, List.getElem!_eq_getElem?_getD, List.getElem?_append_left (by rw [ienc_len]; exact hj), List.getElem!_eq_getElem?_getD]
      rfl
    · have ih := flat_get l (j - 4) (by rw [List.length_cons] at h; omega)
      rw [List.getElem!_eq_getElem?_getD, List.getElem?_append_right (by rw [ienc_len]; omega), ienc_len, ← List.getElem!_eq_getElem?_getD, ih]
      have e1 : j / 4 = (j - 4) / 4 + 1 := by omega
      have e2 : (j - 4) % 4 = j % 4 := by omega
      rw [e1, e2]
      congr 2
      simp [getElem!_def]
theorem holds_ie {B g cap m : Nat} {l : List (IE w n)} {e : TypeId} (h : w.ownsRow B e 4 (.slice (some ⟨g, 0, none⟩) m cap) l.length (l.flatMap ienc)) : HoldsK ienc 4 w g 0 l.toArray := by
  intro j hj
  rw [size_flatK, List.size_toArray] at hj
  rw [Nat.zero_add, get_flatK _ _ _ _ (by rw [List.size_toArray]; exact hj), ← flat_get l j hj]
  obtain ⟨h1, h2⟩ := oc_cell h hj
  refine ⟨?_, h2⟩
  rw [h1, List.getElem!_eq_getElem?_getD]
  have hl : (l.flatMap ienc).length = l.length * 4 := by
    clear h hj h1 h2
    induction l with
    | nil => rfl
    | cons x l ih => rw [List.flatMap_cons, List.length_append, ih, ienc_len, List.length_cons]; omega
  rw [List.getElem?_eq_getElem (by omega)]
  rfl
/-- The other way about: a block that holds such items is a list in memory. -/
theorem list_ie {g : Nat} {d : Array (IE w n)} (hb : Below n w w') (hg : g < w'.heap.size) (hn : n ≤ g) (h : HoldsK ienc 4 w' g 0 d) : ∀ (k i : Nat), i + k = d.size → AtL w' (· < g + 1) ((d.toList.drop i).map IE.it) (some ⟨g, 4 * i, none⟩)
  | 0, i, hi => by
    rw [List.drop_eq_nil_of_le (by rw [Array.length_toList]; omega)]
    exact AtL.nil _
  | k + 1, i, hi => by
    have hlt : i < d.size := by omega
    have ih := list_ie hb hg hn h k (i + 1) (by omega)
    rw [List.drop_eq_getElem_cons (by rw [Array.length_toList]; exact hlt), List.map_cons]
    have hx : d[i]! = d.toList[i]'(by rw [Array.length_toList]; exact hlt) := by rw [getElem!_pos d i hlt]; rfl
    have hc := fun c (hc : c < 4) => (h.cell hlt hc).1
    rw [hx] at hc
    obtain ⟨⟨t, A, cap, ha, hcount⟩, e⟩ : ∃ x, d.toList[i]'(by rw [Array.length_toList]; exact hlt) = x := ⟨_, rfl⟩
    rw [e] at hc ⊢
    have ha' := ha.keep hb
    refine AtL.mk (by omega) hg (At1.mk A cap ?_ ?_ ?_ ?_ ha'.le ha'.nil (ha'.at_.more fun b hb => by omega)) ih
    · have := hc 0 (by omega); rw [Nat.zero_add, Nat.add_zero, Nat.mul_comm] at this; exact this
    · have := hc 1 (by omega); rw [Nat.zero_add, Nat.mul_comm] at this; exact this
    · have := hc 2 (by omega); rw [Nat.zero_add, Nat.mul_comm] at this; exact this
    · have := hc 3 (by omega); rw [Nat.zero_add, Nat.mul_comm] at this; exact this
theorem below_sortK {α : Type} [Inhabited α] (enc : α → List Value) (k : Nat) (w : World) (g off m : Nat) (dk : Array α) (os : Array Obj) (hg : g < w.heap.size) : Bel g w (sortWorldK enc k w g off m dk os) := by
  refine ⟨⟨rfl, rfl, rfl, ?_, fun b hb => ?_⟩, Nat.le_add_right _ _⟩
  · simp [sortWorldK, putRowK, putRow, mapBlock, Sort.ahead, Sort.grow]
  · simp only [sortWorldK, putRowK, putRow, mapBlock, Sort.ahead, Sort.grow]
    rw [Array.getElem?_append_left (by rw [Array.size_modify]; omega), Array.getElem?_modify, if_neg (by omega)]
theorem cmp_ie {g size : Nat} (hg : n ≤ g) (hgw : g < w.heap.size) : CmpLays Try.prog 31 #[] ienc 4 (icf (w := w) (n := n)) g 0 size w := by
  intro m os dk _ x y
  have hb := below_sortK ienc 4 w g 0 m dk os hgw
  refine (item_compareB x.it y.it x.A y.A x.cap y.cap n _ x.le (Nat.le_trans hg (Nat.le_trans (Nat.le_of_lt hgw) hb.size)) (x.at_.keep (hb.toBelow.mono hg)) (y.at_.keep (hb.toBelow.mono hg))).mono fun e w' h => ⟨h.1, h.2.grow⟩
theorem run_sort {its : List It} {g cap B : Nat} (hown : OwnI w n B (.slice (some ⟨g, 0, none⟩) its.length cap) its) (hg : n ≤ g) (hgw : g < w.heap.size) (hc : ∀ t ∈ its, t.count ≤ 1099511627775) (hlen : its.length < 4611686018427387904) (hcap : its.length ≤ cap) :
    Calls Try.prog 30 #[.slice (some ⟨g, 0, none⟩) its.length cap, .func (.func 31) #[] #[]] w fun e w' =>
      e = .returned (.tuple #[]) ∧ ∃ d : List It, d.Perm its ∧ (∀ i j (hi : i < j) (hj : j < d.length), 0 ≤ itC (d[j]) (d[i])) ∧ RL w' (g + 1) d (some ⟨g, 0, none⟩) cap ∧ Bel g w w' := by
  obtain ⟨cs, h1, h2⟩ := hown
  obtain ⟨l, e1, e2⟩ := lay_ie h2 hc
  subst e2
  have hl : its.length = l.toArray.size := by rw [← e1, List.length_map, List.size_toArray]
  have h1' : w.ownsRow B 25 4 (.slice (some ⟨g, 0, none⟩) its.length cap) l.length (l.flatMap ienc) := by rw [hl, List.size_toArray] at h1 ⊢; exact h1
  have hH := holds_ie h1'
  have eg : ∀ args w, (callFunc 31 args).run Try.prog w = .ok (.enter 31 args) w := enters_of Try.func31 (by kernel_rfl) rfl
  have hcon := Go.Proofs.AnyQ.slices_SortFunc Try.sortItems 4 Try.isAgg25 Try.sizeOf25 ienc ienc_len (fun x => ic_one _ _ _) icf swo_icf 31 #[] g 0 cap l.toArray w eg (cmp_ie hg hgw) hH hgw (by rw [← hl]; exact hlen)
  rw [hl]
  refine Calls.mono hcon ?_
  rintro e w' ⟨rfl, d', m, os, ⟨hs, _, hp⟩, hsrt, rfl⟩
  have hb := below_sortK ienc 4 w g 0 m d' os hgw
  have hd := holdsK_sortWorldK ienc 4 w g 0 m l.toArray d' os hgw hH hs
  have hat := list_ie (hb.toBelow.mono hg) (Nat.lt_of_lt_of_le hgw hb.size) hg hd d'.size 0 (by omega)
  have hdl : (d'.toList.map IE.it).length = its.length := by rw [List.length_map, Array.length_toList, hs, ← hl]
  refine ⟨rfl, d'.toList.map IE.it, ?_, ?_, ⟨by rw [hdl]; exact hcap, fun h => (by cases h), by simpa using hat⟩, hb⟩
  · rw [← e1]
    refine List.Perm.map _ ?_
    have e3 : d'.extract 0 l.toArray.size = d' := by rw [← hs]; exact Array.extract_size
    have e4 : l.toArray.extract 0 l.toArray.size = l.toArray := Array.extract_size
    rw [e3, e4] at hp
    simpa using hp
  · intro i j hi hj
    rw [List.length_map, Array.length_toList] at hj
    have := hsrt i j (Nat.zero_le _) hi (by rw [← hs]; exact hj)
    rw [getElem!_pos d' j hj, getElem!_pos d' i (by omega)] at this
    have this := of_decide_eq_false this
    simp only [icf] at this
    simp only [List.getElem_map, Array.getElem_toList]
    omega
end
end Go.Proofs.Ytgcgidoikpbfpaa
