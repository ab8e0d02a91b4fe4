/- Package item: All. -/
import Derived.Test.YtmihoeholcaokaaKAW
import Derived.Shelf.SlGeneric
import Derived.Ground.SlsfProg
import Derived.Shelf.SlLaysF0
import Derived.Shelf.SlLaysF
import Derived.Test.YtmihoeholcaokaaProg
import Derived.Test.YtmihoeholcaokaaKAS
import Derived.Shelf.SlSortCmp.WholeK
import Derived.Test.YtmihoeholcaokaaKAK
namespace Go.Proofs.Ytmihoeholcaokaa
open Go.RowKit Go.Shelf
attribute [local go_sem] Oper.semAt_some

/-- How deep all stand, in all. -/
def tdSum {w : World} {n : Nat} {X0 : It} (pre : List (TD w n X0)) : Nat := (pre.map fun z => z.1.d).sum
def deepSum (x : It) : Nat := ((x.items 1).map (·.1)).sum
theorem tdSum_snoc {w : World} {n : Nat} {X0 : It} (pre : List (TD w n X0)) (z : TD w n X0) : tdSum (pre ++ [z]) = tdSum pre + z.1.d := by simp [tdSum]
theorem tdSum_all {w : World} {n : Nat} {X0 : It} {xs : List (TD w n X0)} {x : It} (h : xs.map tdOf = x.items 1) : tdSum xs = deepSum x := by
  unfold tdSum deepSum
  rw [← h, List.map_map]
  rfl
theorem tdSum_pre {w : World} {n : Nat} {X0 : It} {pre : List (TD w n X0)} {x : It} (h : pre.map tdOf <+: x.items 1) : tdSum pre ≤ deepSum x := by
  obtain ⟨r, hr⟩ := h
  unfold tdSum deepSum
  rw [← hr, List.map_append, List.sum_append, List.map_map]
  exact Nat.le_add_right _ _
theorem Cpd.atB {w : World} {n B : Nat} {x : It} {A : Option Addr} {cap : Nat} (h : Cpd w n B x.l A cap) : AtB w w.heap.size x A cap :=
  AtV.toB ⟨h.1, h.2.1, h.at.more fun _ _ => trivial⟩

end Go.Proofs.Ytmihoeholcaokaa

/- Package item: what All hands back. -/
namespace Go.Proofs.Ytmihoeholcaokaa
open Go.RowKit Go.Shelf
attribute [local go_sem] Oper.semAt_some

def toldV (z : Told) : Array Value := #[.int .i64 (z.d : Int), vI z.t z.A z.cap]
def toldOf (z : Told) : Nat × It := (z.d, z.t)
/-- How it lies in memory. -/
def OkT (B : Nat) (z : Told) (W : World) : Prop := z.t.l.length ≤ z.cap ∧ (z.A = none → z.cap = 0) ∧ AtL W (B ≤ ·) z.t.l z.A
theorem told_size (z : Told) : (toldV z).size = 2 := rfl

end Go.Proofs.Ytmihoeholcaokaa

/- Where the library's bodies lie in this program. -/
namespace Go.Proofs.Ytmihoeholcaokaa
open Go.Shelf
def Try.sortItems_ren : Go.Shelf.Ren := ⟨fun | 6 => 51 | 15 => 60 | 14 => 59 | 28 => 75 | 29 => 76 | 20 => 67 | 21 => 68 | 22 => 69 | 23 => 70 | 24 => 71 | 25 => 72 | 26 => 73 | 27 => 74 | 46 => 80 | 47 => 81 | 48 => 82 | 49 => 83 | 50 => 84 | 57 => 85 | n => n, fun | 22 => 37 | 24 => 39 | 25 => 85 | 3 => 3 | 39 => 52 | 0 => 0 | 53 => 118 | 55 => 25 | 4 => 4 | 46 => 112 | 45 => 111 | 50 => 54 | 5 => 5 | 9 => 9 | 66 => 120 | 70 => 124 | 76 => 126 | 77 => 127 | n => n, fun | n => n⟩
theorem Try.sortItems : Go.Proofs.SlLaysF0.n6 Try.prog Try.sortItems_ren := {
  mixed := by kernel_rfl
  f6 := ⟨Try.f51.name, by decide, Try.func51.trans (congrArg some (by kernel_rfl))⟩
  f14 := ⟨Try.f59.name, by decide, Try.func59.trans (congrArg some (by kernel_rfl))⟩
  f15 := Try.func60.trans (congrArg some (by kernel_rfl))
  f20 := ⟨Try.f67.name, by decide, Try.func67.trans (congrArg some (by kernel_rfl))⟩
  f21 := ⟨Try.f68.name, by decide, Try.func68.trans (congrArg some (by kernel_rfl))⟩
  f22 := ⟨Try.f69.name, by decide, Try.func69.trans (congrArg some (by kernel_rfl))⟩
  f23 := ⟨Try.f70.name, by decide, Try.func70.trans (congrArg some (by kernel_rfl))⟩
  f24 := ⟨Try.f71.name, by decide, Try.func71.trans (congrArg some (by kernel_rfl))⟩
  f25 := ⟨Try.f72.name, by decide, Try.func72.trans (congrArg some (by kernel_rfl))⟩
  f26 := ⟨Try.f73.name, by decide, Try.func73.trans (congrArg some (by kernel_rfl))⟩
  f27 := ⟨Try.f74.name, by decide, Try.func74.trans (congrArg some (by kernel_rfl))⟩
  f28 := Try.func75.trans (congrArg some (by kernel_rfl))
  f29 := Try.func76.trans (congrArg some (by kernel_rfl))
  f46 := ⟨Try.f80.name, by decide, Try.func80.trans (congrArg some (by kernel_rfl))⟩
  f47 := Try.func81.trans (congrArg some (by kernel_rfl))
  f48 := Try.func82.trans (congrArg some (by kernel_rfl))
  f49 := ⟨Try.f83.name, by decide, Try.func83.trans (congrArg some (by kernel_rfl))⟩
  f50 := ⟨Try.f84.name, by decide, Try.func84.trans (congrArg some (by kernel_rfl))⟩
  f57 := ⟨Try.f85.name, by decide, Try.func85.trans (congrArg some (by kernel_rfl))⟩
  t0 := Try.underlying0
  a0 := Try.isAgg0
  z0 := Try.sizeOf0
  v0 := Try.zeroValue0
  t3 := Try.underlying3
  a3 := Try.isAgg3
  z3 := Try.sizeOf3
  v3 := Try.zeroValue3
  t4 := Try.underlying4
  a4 := Try.isAgg4
  z4 := Try.sizeOf4
  v4 := Try.zeroValue4
  t5 := Try.underlying5
  a5 := Try.isAgg5
  z5 := Try.sizeOf5
  v5 := Try.zeroValue5
  t9 := Try.underlying9
  a9 := Try.isAgg9
  z9 := Try.sizeOf9
  v9 := Try.zeroValue9
  t22 := Try.underlying37
  a22 := Try.isAgg37
  z22 := Try.sizeOf37
  v22 := Try.zeroValue37
  t25 := Try.underlying85
  a25 := Try.isAgg85
  z25 := Try.sizeOf85
  v25 := Try.zeroValue85
  t39 := Try.underlying52
  a39 := Try.isAgg52
  z39 := Try.sizeOf52
  v39 := Try.zeroValue52
  t45 := Try.underlying111
  a45 := Try.isAgg111
  z45 := Try.sizeOf111
  v45 := Try.zeroValue111
  t46 := Try.underlying112
  a46 := Try.isAgg112
  z46 := Try.sizeOf112
  v46 := Try.zeroValue112
  t50 := Try.underlying54
  a50 := Try.isAgg54
  z50 := Try.sizeOf54
  v50 := Try.zeroValue54
  t53 := Try.underlying118
  a53 := Try.isAgg118
  z53 := Try.sizeOf118
  v53 := Try.zeroValue118
  t55 := Try.underlying25
  a55 := Try.isAgg25
  z55 := Try.sizeOf25
  v55 := Try.zeroValue25
  t66 := Try.underlying120
  a66 := Try.isAgg120
  z66 := Try.sizeOf120
  v66 := Try.zeroValue120
  t70 := Try.underlying124
  a70 := Try.isAgg124
  z70 := Try.sizeOf124
  v70 := Try.zeroValue124
  t76 := Try.underlying126
  a76 := Try.isAgg126
  z76 := Try.sizeOf126
  v76 := Try.zeroValue126
  t77 := Try.underlying127
  a77 := Try.isAgg127
  z77 := Try.sizeOf127
  v77 := Try.zeroValue127 }
end Go.Proofs.Ytmihoeholcaokaa

/- slices.SortFunc over items: what the library says of it, in terms of items. -/
namespace Go.Proofs.Ytmihoeholcaokaa
open Go.RowKit Go.Sort

/-- An item with the place of its list, below block n of w. -/
structure IE (w : World) (n : Nat) where
  it : It
  A : Option Addr
  cap : Nat
  at_ : AtB w n it A cap
  le : it.count ≤ 1099511627775
instance instIE (w : World) (n : Nat) : Inhabited (IE w n) := ⟨⟨.mk 0 0 ⟨#[]⟩ [], none, 0, ⟨Nat.le_refl _, fun _ => rfl, AtL.nil _⟩, by rw [It.count_eq]; simp [It.l, countL]⟩⟩
section
variable {w w' : World} {n : Nat}
def ienc (x : IE w n) : List Value := ic x.it x.A x.cap
def icf (x y : IE w n) : Int := itC x.it y.it
theorem ienc_len (x : IE w n) : (ienc x).length = 4 := rfl
theorem swo_icf : SWO (Go.Proofs.ltOf (icf (w := w) (n := n))) where
  irrefl x := by unfold Go.Proofs.ltOf icf; rw [itC_cmp.refl]; rfl
  trans x y z h1 h2 := by
    unfold Go.Proofs.ltOf icf at *
    simp only [decide_eq_true_eq] at *
    exact itC_cmp.tr _ _ _ h1 h2
  ntrans x y z h1 h2 := by
    unfold Go.Proofs.ltOf icf at *
    simp only [decide_eq_false_iff_not, Int.not_lt] at *
    have a1 := itC_cmp.anti x.it y.it
    have a2 := itC_cmp.anti y.it z.it
    have a3 := itC_cmp.anti x.it z.it
    have := itC_cmp.le_trans (x := z.it) (y := y.it) (z := x.it) (by omega) (by omega)
    omega
/-- Cells of items, as a list of items with their places. -/
theorem lay_ie : ∀ {its : List It} {cs : List Value}, Lay w n its cs → (∀ t ∈ its, t.count ≤ 1099511627775) → ∃ l : List (IE w n), l.map IE.it = its ∧ l.flatMap ienc = cs
  | [], cs, h, _ => ⟨[], rfl, (show cs = [] from h).symm⟩
  | t :: r, cs, ⟨A, cap, c, e, h1, h2⟩, hc => by
    obtain ⟨l, e1, e2⟩ := lay_ie h2 fun t ht => hc t (List.mem_cons_of_mem _ ht)
    exact ⟨⟨t, A, cap, h1, hc t (List.mem_cons_self ..)⟩ :: l, by rw [List.map_cons, e1], by rw [List.flatMap_cons, e2, e]; rfl⟩
theorem flat_get : ∀ (l : List (IE w n)) (j : Nat), j < l.length * 4 → (l.flatMap ienc)[j]! = (ienc l.toArray[j / 4]!)[j % 4]!
  | [], j, h => by simp at h
  | x :: l, j, h => by
    rw [List.flatMap_cons]
    by_cases hj : j < 4
    · rw [Nat.div_eq_of_lt hj, Nat.mod_eq_of_lt hj, List.getElem!_eq_getElem?_getD, List.getElem?_append_left (by rw [ienc_len]; exact hj), List.getElem!_eq_getElem?_getD]
      rfl
    · have ih := flat_get l (j - 4) (by rw [List.length_cons] at h; omega)
      rw [List.getElem!_eq_getElem?_getD, List.getElem?_append_right (by rw [ienc_len]; omega), ienc_len, ← List.getElem!_eq_getElem?_getD, ih]
      have e1 : j / 4 = (j - 4) / 4 + 1 := by omega
      have e2 : (j - 4) % 4 = j % 4 := by omega
      rw [e1, e2]
      congr 2
      simp [getElem!_def]
theorem holds_ie {B g cap m : Nat} {l : List (IE w n)} {e : TypeId} (h : w.ownsRow B e 4 (.slice (some ⟨g, 0, none⟩) m cap) l.length (l.flatMap ienc)) : HoldsK ienc 4 w g 0 l.toArray := by
  intro j hj
  rw [size_flatK, List.size_toArray] at hj
  rw [Nat.zero_add, get_flatK _ _ _ _ (by rw [List.size_toArray]; exact hj), ← flat_get l j hj]
  obtain ⟨h1, h2⟩ := oc_cell h hj
  refine ⟨?_, h2⟩
  rw [h1, List.getElem!_eq_getElem?_getD]
  have hl : (l.flatMap ienc).length = l.length * 4 := by
    clear h hj h1 h2
    induction l with
    | nil => rfl
    | cons x l ih => rw [List.flatMap_cons, List.length_append, ih, ienc_len, List.length_cons]; omega
  rw [List.getElem?_eq_getElem (by omega)]
  rfl
/-- The other way about: a block that holds such items is a list in memory. -/
theorem list_ie {g : Nat} {d : Array (IE w n)} (hb : Below n w w') (hg : g < w'.heap.size) (hn : n ≤ g) (h : HoldsK ienc 4 w' g 0 d) : ∀ (k i : Nat), i + k = d.size → AtL w' (· < g + 1) ((d.toList.drop i).map IE.it) (some ⟨g, 4 * i, none⟩)
  | 0, i, hi => by
    rw [List.drop_eq_nil_of_le (by rw [Array.length_toList]; omega)]
    exact AtL.nil _
  | k + 1, i, hi => by
    have hlt : i < d.size := by omega
    have ih := list_ie hb hg hn h k (i + 1) (by omega)
    rw [List.drop_eq_getElem_cons (by rw [Array.length_toList]; exact hlt), List.map_cons]
    have hx : d[i]! = d.toList[i]'(by rw [Array.length_toList]; exact hlt) := by rw [getElem!_pos d i hlt]; rfl
    have hc := fun c (hc : c < 4) => (h.cell hlt hc).1
    rw [hx] at hc
    obtain ⟨⟨t, A, cap, ha, hcount⟩, e⟩ : ∃ x, d.toList[i]'(by rw [Array.length_toList]; exact hlt) = x := ⟨_, rfl⟩
    rw [e] at hc ⊢
    have ha' := ha.keep hb
    refine AtL.mk (by omega) hg (At1.mk A cap ?_ ?_ ?_ ?_ ha'.le ha'.nil (ha'.at_.more fun b hb => by omega)) ih
    · have := hc 0 (by omega); rw [Nat.zero_add, Nat.add_zero, Nat.mul_comm] at this; exact this
    · have := hc 1 (by omega); rw [Nat.zero_add, Nat.mul_comm] at this; exact this
    · have := hc 2 (by omega); rw [Nat.zero_add, Nat.mul_comm] at this; exact this
    · have := hc 3 (by omega); rw [Nat.zero_add, Nat.mul_comm] at this; exact this
theorem below_sortK {α : Type} [Inhabited α] (enc : α → List Value) (k : Nat) (w : World) (g off m : Nat) (dk : Array α) (os : Array Obj) (hg : g < w.heap.size) : Bel g w (sortWorldK enc k w g off m dk os) := by
  refine ⟨⟨rfl, rfl, rfl, ?_, fun b hb => ?_⟩, Nat.le_add_right _ _⟩
  · simp [sortWorldK, putRowK, putRow, mapBlock, Sort.ahead, Sort.grow]
  · simp only [sortWorldK, putRowK, putRow, mapBlock, Sort.ahead, Sort.grow]
    rw [Array.getElem?_append_left (by rw [Array.size_modify]; omega), Array.getElem?_modify, if_neg (by omega)]
theorem cmp_ie {g size : Nat} (hg : n ≤ g) (hgw : g < w.heap.size) : CmpLays Try.prog 41 #[] ienc 4 (icf (w := w) (n := n)) g 0 size w := by
  intro m os dk _ x y
  have hb := below_sortK ienc 4 w g 0 m dk os hgw
  refine (item_compareB x.it y.it x.A y.A x.cap y.cap n _ x.le (Nat.le_trans hg (Nat.le_trans (Nat.le_of_lt hgw) hb.size)) (x.at_.keep (hb.toBelow.mono hg)) (y.at_.keep (hb.toBelow.mono hg))).mono fun e w' h => ⟨h.1, h.2.grow⟩
theorem run_sort {its : List It} {g cap B : Nat} (hown : OwnI w n B (.slice (some ⟨g, 0, none⟩) its.length cap) its) (hg : n ≤ g) (hgw : g < w.heap.size) (hc : ∀ t ∈ its, t.count ≤ 1099511627775) (hlen : its.length < 4611686018427387904) (hcap : its.length ≤ cap) :
    Calls Try.prog 51 #[.slice (some ⟨g, 0, none⟩) its.length cap, .func (.func 41) #[] #[]] w fun e w' =>
      e = .returned (.tuple #[]) ∧ ∃ d : List It, d.Perm its ∧ (∀ i j (hi : i < j) (hj : j < d.length), 0 ≤ itC (d[j]) (d[i])) ∧ RL w' (g + 1) d (some ⟨g, 0, none⟩) cap ∧ Bel g w w' := by
  obtain ⟨cs, h1, h2⟩ := hown
  obtain ⟨l, e1, e2⟩ := lay_ie h2 hc
  subst e2
  have hl : its.length = l.toArray.size := by rw [← e1, List.length_map, List.size_toArray]
  have h1' : w.ownsRow B 39 4 (.slice (some ⟨g, 0, none⟩) its.length cap) l.length (l.flatMap ienc) := by rw [hl, List.size_toArray] at h1 ⊢; exact h1
  have hH := holds_ie h1'
  have eg : ∀ args w, (callFunc 41 args).run Try.prog w = .ok (.enter 41 args) w := enters_of Try.func41 (by kernel_rfl) rfl
  have hcon := Go.Proofs.AnyQ.slices_SortFunc Try.sortItems 4 Try.isAgg39 Try.sizeOf39 ienc ienc_len (fun x => ic_one _ _ _) icf swo_icf 41 #[] g 0 cap l.toArray w eg (cmp_ie hg hgw) hH hgw (by rw [← hl]; exact hlen)
  rw [hl]
  refine Calls.mono hcon ?_
  rintro e w' ⟨rfl, d', m, os, ⟨hs, _, hp⟩, hsrt, rfl⟩
  have hb := below_sortK ienc 4 w g 0 m d' os hgw
  have hd := holdsK_sortWorldK ienc 4 w g 0 m l.toArray d' os hgw hH hs
  have hat := list_ie (hb.toBelow.mono hg) (Nat.lt_of_lt_of_le hgw hb.size) hg hd d'.size 0 (by omega)
  have hdl : (d'.toList.map IE.it).length = its.length := by rw [List.length_map, Array.length_toList, hs, ← hl]
  refine ⟨rfl, d'.toList.map IE.it, ?_, ?_, ⟨by rw [hdl]; exact hcap, fun h => (by cases h), by simpa using hat⟩, hb⟩
  · rw [← e1]
    refine List.Perm.map _ ?_
    have e3 : d'.extract 0 l.toArray.size = d' := by rw [← hs]; exact Array.extract_size
    have e4 : l.toArray.extract 0 l.toArray.size = l.toArray := Array.extract_size
    rw [e3, e4] at hp
    simpa using hp
  · intro i j hi hj
    rw [List.length_map, Array.length_toList] at hj
    have := hsrt i j (Nat.zero_le _) hi (by rw [← hs]; exact hj)
    rw [getElem!_pos d' j hj, getElem!_pos d' i (by omega)] at this
    have this := of_decide_eq_false this
    simp only [icf] at this
    simp only [List.getElem_map, Array.getElem_toList]
    omega
end
end Go.Proofs.Ytmihoeholcaokaa

/- Package float: a NaN, a float put together. -/
namespace Go.Proofs.Ytmihoeholcaokaa
open Go.RowKit
section
variable {W E F M B : Int} {ne nf O : Nat}
theorem or_parts {s e f a b : Nat} (hs : s < 2) (he : e < 2 ^ a) (hf : f < 2 ^ b) (hab : 1 + a + b ≤ 64) :
    bits .or .u64 (bits .or .u64 ((s * 2 ^ (a + b) : Nat) : Int) ((e * 2 ^ b : Nat) : Int)) (f : Int) = ((s * 2 ^ (a + b) + e * 2 ^ b + f : Nat) : Int) := by
  have h0 : 2 ^ (1 + a + b) ≤ 2 ^ 64 := Nat.pow_le_pow_right (by decide) hab
  have e1 : 2 ^ (1 + a + b) = 2 * (2 ^ a * 2 ^ b) := by rw [Nat.pow_add, Nat.pow_add, Nat.pow_one, Nat.mul_assoc]
  have e2 : 2 ^ (a + b) = 2 ^ a * 2 ^ b := Nat.pow_add 2 a b
  have h1 : e * 2 ^ b + f < 2 ^ a * 2 ^ b := by
    have := Nat.mul_le_mul_right (2 ^ b) (show e + 1 ≤ 2 ^ a from he)
    rw [Nat.add_mul] at this
    omega
  have h2 : s * 2 ^ (a + b) ≤ 1 * 2 ^ (a + b) := Nat.mul_le_mul_right _ (by omega)
  rw [bits_or_u64_nat _ _ (by omega) (by omega)]
  have j1 : s * 2 ^ (a + b) ||| e * 2 ^ b = s * 2 ^ (a + b) + e * 2 ^ b := nat_join (a + b) _ _ (Nat.mul_mod_left _ _) (by omega)
  rw [j1, bits_or_u64_nat _ _ (by omega) (by omega)]
  have j2 : s * 2 ^ (a + b) + e * 2 ^ b ||| f = s * 2 ^ (a + b) + e * 2 ^ b + f := nat_join b _ _ (by
    rw [e2, ← Nat.mul_assoc, ← Nat.add_mul]; exact Nat.mul_mod_left _ _) hf
  rw [j2]
set_option maxHeartbeats 1000000 in
theorem float_isNaN (h : Fz W E F M B ne nf O) (s e f : Int) (w : World) :
    Calls Try.prog 57 #[.agg (parts s e f), .int .i64 W] w fun r w' => r = .returned (.bool (decide (e = M ∧ f ≠ 0))) ∧ Below w.heap.size w w' := by
  have h2 := Lib.hid (float_most h)
  clear h
  unfold parts
  by_cases he : e = M
  · subst he
    have HD : decide (e = e ∧ f ≠ 0) = (f != 0) := by simp [bne, BEq.beq]
    rw [HD]
    clear HD
    go_enter Try.func57, Try.ntmps57
    go_wp2_with fail
    have b0 : Blk (w.alloc (.cells (parts s e f) 104)) w.heap.size 104 (parts s e f) := Blk.fresh _ _ _
    have S : Below w.heap.size w (w.alloc (.cells (parts s e f) 104)) := below_alloc _ _
    unfold parts at b0 S
    generalize w.alloc (.cells #[.int .u64 s, .int .i64 e, .int .u64 f] 104) = w1 at *
    generalize hgg : w.heap.size = g at *
    obtain ⟨c0, c1, c2, fz⟩ := pblk b0
    clear fz b0
    go_quiet (with_reducible exact Calls.quiet_of_same ((h2.out _).mono (fun _ _ h => ⟨h.1, h.2.symm⟩)))
    go_wp2
    go_ret
    exact ⟨rfl, by rw [hgg]; exact below_drawnN S _⟩
  · have HD : decide (e = M ∧ f ≠ 0) = false := by simp [he]
    have he' : (e == M) = false := by simp [he]
    rw [HD]
    clear HD he
    go_enter Try.func57, Try.ntmps57
    go_wp2_with fail
    have b0 : Blk (w.alloc (.cells (parts s e f) 104)) w.heap.size 104 (parts s e f) := Blk.fresh _ _ _
    have S : Below w.heap.size w (w.alloc (.cells (parts s e f) 104)) := below_alloc _ _
    unfold parts at b0 S
    generalize w.alloc (.cells #[.int .u64 s, .int .i64 e, .int .u64 f] 104) = w1 at *
    generalize hgg : w.heap.size = g at *
    obtain ⟨c0, c1, c2, fz⟩ := pblk b0
    clear fz b0
    go_quiet (with_reducible exact Calls.quiet_of_same ((h2.out _).mono (fun _ _ h => ⟨h.1, h.2.symm⟩)))
    go_wp2
    go_ret
    exact ⟨rfl, by rw [hgg]; exact below_drawnN S _⟩
end
end Go.Proofs.Ytmihoeholcaokaa

/- Package float: a number below the least normal one. -/
namespace Go.Proofs.Ytmihoeholcaokaa
open Go.RowKit
def cellInt (g o : Nat) (w : World) : Nat := match w.cell? ⟨g, o, none⟩ with | some v => (intOf v).toNat | none => 0
theorem cellInt_of {w : World} {g o : Nat} {k : IntKind} {n : Int} (h : w.cell? ⟨g, o, none⟩ = some (.int k n)) : cellInt g o w = n.toNat := by
  unfold cellInt; rw [h]; rfl
def upN (f k : Nat) : Nat := f * 2 ^ k
def dnN (c k : Nat) : Nat := c - k
theorem upN_eq (f k : Nat) : upN f k = f * 2 ^ k := rfl
theorem dnN_eq (c k : Nat) : dnN c k = c - k := rfl
attribute [irreducible] upN dnN
end Go.Proofs.Ytmihoeholcaokaa

/- Package float: a half or a single, widened. -/
namespace Go.Proofs.Ytmihoeholcaokaa
open Go.RowKit
end Go.Proofs.Ytmihoeholcaokaa

/- Package float: Widen, NaN. -/
namespace Go.Proofs.Ytmihoeholcaokaa
open Go.RowKit
theorem float_NaN (x : Nat) (hx : x < 18446744073709551616) (w : World) :
    Calls Try.prog 50 #[.int .u64 x] w fun e w' => e = .returned (.bool (decide (FNan 11 52 x))) ∧ Below w.heap.size w w' := by
  have h1 := Lib.hid (float_split .double x hx)
  have h2 := Lib.hid (float_isNaN .double (fsg 11 52 x) (fex 11 52 x) (ffr 52 x))
  have e : decide ((fex 11 52 x : Int) = 2047 ∧ (ffr 52 x : Int) ≠ 0) = decide (FNan 11 52 x) := by
    unfold FNan
    have : ((fex 11 52 x : Int) = 2047 ∧ (ffr 52 x : Int) ≠ 0) ↔ (fex 11 52 x = 2 ^ 11 - 1 ∧ ffr 52 x ≠ 0) := by omega
    simp only [this]
  rw [e] at h2
  go_enter Try.func50, Try.ntmps50
  go_wp2_with (first | (go_at_call 58; refine (h1.out _).mono ?_; rintro r w' ⟨rfl, S1⟩) | (go_at_call 57; refine (h2.out _).mono ?_; rintro r w'' ⟨rfl, S2⟩))
  go_ret
  exact ⟨rfl, S1.trans (S2.mono S1.size)⟩
end Go.Proofs.Ytmihoeholcaokaa
