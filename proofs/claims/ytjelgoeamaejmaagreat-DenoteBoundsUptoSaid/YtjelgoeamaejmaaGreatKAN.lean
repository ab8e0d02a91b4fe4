/- Package item: All. -/
import Derived.Test.YtjelgoeamaejmaaGreatKAM
import Derived.Shelf.SlGeneric
import Derived.Ground.SlsfProg
import Derived.Shelf.SlLaysF0
import Derived.Shelf.SlLaysF
import Derived.Test.YtjelgoeamaejmaaGreatProg
import Derived.Test.YtjelgoeamaejmaaGreatKAH
import Derived.Shelf.SlSortCmp.WholeK
namespace Go.Proofs.YtjelgoeamaejmaaGreat
open Go.RowKit Go.Shelf
attribute [local go_sem] Oper.semAt_some

/-- How deep all stand, in all. -/
def tdSum {w : World} {n : Nat} {X0 : It} (pre : List (TD w n X0)) : Nat := (pre.map fun z => z.1.d).sum
def deepSum (x : It) : Nat := ((x.items 1).map (·.1)).sum
theorem tdSum_snoc {w : World} {n : Nat} {X0 : It} (pre : List (TD w n X0)) (z : TD w n X0) : tdSum (pre ++ [z]) = tdSum pre + z.1.d := by simp [tdSum]
theorem tdSum_all {w : World} {n : Nat} {X0 : It} {xs : List (TD w n X0)} {x : It} (h : xs.map tdOf = x.items 1) : tdSum xs = deepSum x := by
  unfold tdSum deepSum
  rw [← h, List.map_map]
  rfl
theorem tdSum_pre {w : World} {n : Nat} {X0 : It} {pre : List (TD w n X0)} {x : It} (h : pre.map tdOf <+: x.items 1) : tdSum pre ≤ deepSum x := by
  obtain ⟨r, hr⟩ := h
  unfold tdSum deepSum
  rw [← hr, List.map_append, List.sum_append, List.map_map]
  exact Nat.le_add_right _ _
theorem Cpd.atB {w : World} {n B : Nat} {x : It} {A : Option Addr} {cap : Nat} (h : Cpd w n B x.l A cap) : AtB w w.heap.size x A cap :=
  AtV.toB ⟨h.1, h.2.1, h.at.more fun _ _ => trivial⟩

end Go.Proofs.YtjelgoeamaejmaaGreat

/- Package item: what All hands back. -/
namespace Go.Proofs.YtjelgoeamaejmaaGreat
open Go.RowKit Go.Shelf
attribute [local go_sem] Oper.semAt_some

def toldV (z : Told) : Array Value := #[.int .i64 (z.d : Int), vI z.t z.A z.cap]
def toldOf (z : Told) : Nat × It := (z.d, z.t)
/-- How it lies in memory. -/
def OkT (B : Nat) (z : Told) (W : World) : Prop := z.t.l.length ≤ z.cap ∧ (z.A = none → z.cap = 0) ∧ AtL W (B ≤ ·) z.t.l z.A
theorem told_size (z : Told) : (toldV z).size = 2 := rfl

end Go.Proofs.YtjelgoeamaejmaaGreat

/- Where the library's bodies lie in this program. -/
namespace Go.Proofs.YtjelgoeamaejmaaGreat
open Go.Shelf
def Tryz.sortItems_ren : Go.Shelf.Ren := ⟨fun | 6 => 72 | 15 => 78 | 14 => 87 | 28 => 98 | 29 => 99 | 20 => 106 | 21 => 107 | 22 => 108 | 23 => 109 | 24 => 110 | 25 => 111 | 26 => 112 | 27 => 113 | 46 => 129 | 47 => 119 | 48 => 120 | 49 => 130 | 50 => 131 | 57 => 138 | n => n, fun | 22 => 26 | 24 => 28 | 25 => 102 | 3 => 3 | 39 => 95 | 0 => 0 | 53 => 132 | 55 => 25 | 4 => 4 | 46 => 126 | 45 => 125 | 50 => 49 | 5 => 5 | 9 => 9 | 66 => 148 | 70 => 152 | 76 => 161 | 77 => 37 | n => n, fun | n => n⟩
theorem Tryz.sortItems : Go.Proofs.SlLaysF0.n6 Tryz.prog Tryz.sortItems_ren := {
  mixed := by kernel_rfl
  f6 := ⟨Tryz.f72.name, by decide, Tryz.func72.trans (congrArg some (by kernel_rfl))⟩
  f14 := ⟨Tryz.f87.name, by decide, Tryz.func87.trans (congrArg some (by kernel_rfl))⟩
  f15 := Tryz.func78.trans (congrArg some (by kernel_rfl))
  f20 := ⟨Tryz.f106.name, by decide, Tryz.func106.trans (congrArg some (by kernel_rfl))⟩
  f21 := ⟨Tryz.f107.name, by decide, Tryz.func107.trans (congrArg some (by kernel_rfl))⟩
  f22 := ⟨Tryz.f108.name, by decide, Tryz.func108.trans (congrArg some (by kernel_rfl))⟩
  f23 := ⟨Tryz.f109.name, by decide, Tryz.func109.trans (congrArg some (by kernel_rfl))⟩
  f24 := ⟨Tryz.f110.name, by decide, Tryz.func110.trans (congrArg some (by kernel_rfl))⟩
  f25 := ⟨Tryz.f111.name, by decide, Tryz.func111.trans (congrArg some (by kernel_rfl))⟩
  f26 := ⟨Tryz.f112.name, by decide, Tryz.func112.trans (congrArg some (by kernel_rfl))⟩
  f27 := ⟨Tryz.f113.name, by decide, Tryz.func113.trans (congrArg some (by kernel_rfl))⟩
  f28 := Tryz.func98.trans (congrArg some (by kernel_rfl))
  f29 := Tryz.func99.trans (congrArg some (by kernel_rfl))
  f46 := ⟨Tryz.f129.name, by decide, Tryz.func129.trans (congrArg some (by kernel_rfl))⟩
  f47 := Tryz.func119.trans (congrArg some (by kernel_rfl))
  f48 := Tryz.func120.trans (congrArg some (by kernel_rfl))
  f49 := ⟨Tryz.f130.name, by decide, Tryz.func130.trans (congrArg some (by kernel_rfl))⟩
  f50 := ⟨Tryz.f131.name, by decide, Tryz.func131.trans (congrArg some (by kernel_rfl))⟩
  f57 := ⟨Tryz.f138.name, by decide, Tryz.func138.trans (congrArg some (by kernel_rfl))⟩
  t0 := Tryz.underlying0
  a0 := Tryz.isAgg0
  z0 := Tryz.sizeOf0
  v0 := Tryz.zeroValue0
  t3 := Tryz.underlying3
  a3 := Tryz.isAgg3
  z3 := Tryz.sizeOf3
  v3 := Tryz.zeroValue3
  t4 := Tryz.underlying4
  a4 := Tryz.isAgg4
  z4 := Tryz.sizeOf4
  v4 := Tryz.zeroValue4
  t5 := Tryz.underlying5
  a5 := Tryz.isAgg5
  z5 := Tryz.sizeOf5
  v5 := Tryz.zeroValue5
  t9 := Tryz.underlying9
  a9 := Tryz.isAgg9
  z9 := Tryz.sizeOf9
  v9 := Tryz.zeroValue9
  t22 := Tryz.underlying26
  a22 := Tryz.isAgg26
  z22 := Tryz.sizeOf26
  v22 := Tryz.zeroValue26
  t25 := Tryz.underlying102
  a25 := Tryz.isAgg102
  z25 := Tryz.sizeOf102
  v25 := Tryz.zeroValue102
  t39 := Tryz.underlying95
  a39 := Tryz.isAgg95
  z39 := Tryz.sizeOf95
  v39 := Tryz.zeroValue95
  t45 := Tryz.underlying125
  a45 := Tryz.isAgg125
  z45 := Tryz.sizeOf125
  v45 := Tryz.zeroValue125
  t46 := Tryz.underlying126
  a46 := Tryz.isAgg126
  z46 := Tryz.sizeOf126
  v46 := Tryz.zeroValue126
  t50 := Tryz.underlying49
  a50 := Tryz.isAgg49
  z50 := Tryz.sizeOf49
  v50 := Tryz.zeroValue49
  t53 := Tryz.underlying132
  a53 := Tryz.isAgg132
  z53 := Tryz.sizeOf132
  v53 := Tryz.zeroValue132
  t55 := Tryz.underlying25
  a55 := Tryz.isAgg25
  z55 := Tryz.sizeOf25
  v55 := Tryz.zeroValue25
  t66 := Tryz.underlying148
  a66 := Tryz.isAgg148
  z66 := Tryz.sizeOf148
  v66 := Tryz.zeroValue148
  t70 := Tryz.underlying152
  a70 := Tryz.isAgg152
  z70 := Tryz.sizeOf152
  v70 := Tryz.zeroValue152
  t76 := Tryz.underlying161
  a76 := Tryz.isAgg161
  z76 := Tryz.sizeOf161
  v76 := Tryz.zeroValue161
  t77 := Tryz.underlying37
  a77 := Tryz.isAgg37
  z77 := Tryz.sizeOf37
  v77 := Tryz.zeroValue37 }
end Go.Proofs.YtjelgoeamaejmaaGreat

/- slices.SortFunc over items: what the library says of it, in terms of items. -/
namespace Go.Proofs.YtjelgoeamaejmaaGreat
open Go.RowKit Go.Sort

/-- An item with the place of its list, below block n of w. -/
structure IE (w : World) (n : Nat) where
  it : It
  A : Option Addr
  cap : Nat
  at_ : AtB w n it A cap
  le : it.count ≤ 1099511627775
instance instIE (w : World) (n : Nat) : Inhabited (IE w n) := ⟨⟨.mk 0 0 ⟨#[]⟩ [], none, 0, ⟨Nat.le_refl _, fun _ => rfl, AtL.nil _⟩, by rw [It.count_eq]; simp [It.l, countL]⟩⟩
section
variable {w w' : World} {n : Nat}
def ienc (x : IE w n) : List Value := ic x.it x.A x.cap
def icf (x y : IE w n) : Int := itC x.it y.it
theorem ienc_len (x : IE w n) : (ienc x).length = 4 := rfl
theorem swo_icf : SWO (Go.Proofs.ltOf (icf (w := w) (n := n))) where
  irrefl x := by unfold Go.Proofs.ltOf icf; rw [itC_cmp.refl]; rfl
  trans x y z h1 h2 := by
    unfold Go.Proofs.ltOf icf at *
    simp only [decide_eq_true_eq] at *
    exact itC_cmp.tr _ _ _ h1 h2
  ntrans x y z h1 h2 := by
    unfold Go.Proofs.ltOf icf at *
    simp only [decide_eq_false_iff_not, Int.not_lt] at *
    have a1 := itC_cmp.anti x.it y.it
    have a2 := itC_cmp.anti y.it z.it
    have a3 := itC_cmp.anti x.it z.it
    have := itC_cmp.le_trans (x := z.it) (y := y.it) (z := x.it) (by omega) (by omega)
    omega
/-- Cells of items, as a list of items with their places. -/
theorem lay_ie : ∀ {its : List It} {cs : List Value}, Lay w n its cs → (∀ t ∈ its, t.count ≤ 1099511627775) → ∃ l : List (IE w n), l.map IE.it = its ∧ l.flatMap ienc = cs
  | [], cs, h, _ => ⟨[], rfl, (show cs = [] from h).symm⟩
  | t :: r, cs, ⟨A, cap, c, e, h1, h2⟩, hc => by
    obtain ⟨l, e1, e2⟩ := lay_ie h2 fun t ht => hc t (List.mem_cons_of_mem _ ht)
    exact ⟨⟨t, A, cap, h1, hc t (List.mem_cons_self ..)⟩ :: l, by rw [List.map_cons, e1], by rw [List.flatMap_cons, e2, e]; rfl⟩
theorem flat_get : ∀ (l : List (IE w n)) (j : Nat), j < l.length * 4 → (l.flatMap ienc)[j]! = (ienc l.toArray[j / 4]!)[j % 4]!
  | [], j, h => by simp at h
  | x :: l, j, h => by
    rw [List.flatMap_cons]
    by_cases hj : j < 4
    · rw [Nat.div_eq_of_lt hj, Nat.mod_eq_of_lt hj, List.getElem!_eq_getElem?_getD, List.getElem?_append_left (by rw [ienc_len]; exact hj), List.getElem!_eq_getElem?_getD]
      rfl
    · have ih := flat_get l (j - 4) (by rw [List.length_cons] at h; omega)
      rw [List.getElem!_eq_getElem?_getD, List.getElem?_append_right (by rw [ienc_len]; omega), ienc_len, ← List.getElem!_eq_getElem?_getD, ih]
      have e1 : j / 4 = (j - 4) / 4 + 1 := by omega
      have e2 : (j - 4) % 4 = j % 4 := by omega
      rw [e1, e2]
      congr 2
      simp [getElem!_def]
theorem holds_ie {B g cap m : Nat} {l : List (IE w n)} {e : TypeId} (h : w.ownsRow B e 4 (.slice (some ⟨g, 0, none⟩) m cap) l.length (l.flatMap ienc)) : HoldsK ienc 4 w g 0 l.toArray := by
  intro j hj
  rw [size_flatK, List.size_toArray] at hj
  rw [Nat.zero_add, get_flatK _ _ _ _ (by rw [List.size_toArray]; exact hj), ← flat_get l j hj]
  obtain ⟨h1, h2⟩ := oc_cell h hj
  refine ⟨?_, h2⟩
  rw [h1, List.getElem!_eq_getElem?_getD]
  have hl : (l.flatMap ienc).length = l.length * 4 := by
    clear h hj h1 h2
    induction l with
    | nil => rfl
    | cons x l ih => rw [List.flatMap_cons, List.length_append, ih, ienc_len, List.length_cons]; omega
  rw [List.getElem?_eq_getElem (by omega)]
  rfl
/-- The other way about: a block that holds such items is a list in memory. -/
theorem list_ie {g : Nat} {d : Array (IE w n)} (hb : Below n w w') (hg : g < w'.heap.size) (hn : n ≤ g) (h : HoldsK ienc 4 w' g 0 d) : ∀ (k i : Nat), i + k = d.size → AtL w' (· < g + 1) ((d.toList.drop i).map IE.it) (some ⟨g, 4 * i, none⟩)
  | 0, i, hi => by
    rw [List.drop_eq_nil_of_le (by rw [Array.length_toList]; omega)]
    exact AtL.nil _
  | k + 1, i, hi => by
    have hlt : i < d.size := by omega
    have ih := list_ie hb hg hn h k (i + 1) (by omega)
    rw [List.drop_eq_getElem_cons (by rw [Array.length_toList]; exact hlt), List.map_cons]
    have hx : d[i]! = d.toList[i]'(by rw [Array.length_toList]; exact hlt) := by rw [getElem!_pos d i hlt]; rfl
    have hc := fun c (hc : c < 4) => (h.cell hlt hc).1
    rw [hx] at hc
    obtain ⟨⟨t, A, cap, ha, hcount⟩, e⟩ : ∃ x, d.toList[i]'(by rw [Array.length_toList]; exact hlt) = x := ⟨_, rfl⟩
    rw [e] at hc ⊢
    have ha' := ha.keep hb
    refine AtL.mk (by omega) hg (At1.mk A cap ?_ ?_ ?_ ?_ ha'.le ha'.nil (ha'.at_.more fun b hb => by omega)) ih
    · have := hc 0 (by omega); rw [Nat.zero_add, Nat.add_zero, Nat.mul_comm] at this; exact this
    · have := hc 1 (by omega); rw [Nat.zero_add, Nat.mul_comm] at this; exact this
    · have := hc 2 (by omega); rw [Nat.zero_add, Nat.mul_comm] at this; exact this
    · have := hc 3 (by omega); rw [Nat.zero_add, Nat.mul_comm] at this; exact this
theorem below_sortK {α : Type} [Inhabited α] (enc : α → List Value) (k : Nat) (w : World) (g off m : Nat) (dk : Array α) (os : Array Obj) (hg : g < w.heap.size) : Bel g w (sortWorldK enc k w g off m dk os) := by
  refine ⟨⟨rfl, rfl, rfl, ?_, fun b hb => ?_⟩, Nat.le_add_right _ _⟩
  · simp [sortWorldK, putRowK, putRow, mapBlock, Sort.ahead, Sort.grow]
  · simp only [sortWorldK, putRowK, putRow, mapBlock, Sort.ahead, Sort.grow]
    rw [Array.getElem?_append_left (by rw [Array.size_modify]; omega), Array.getElem?_modify, if_neg (by omega)]
theorem cmp_ie {g size : Nat} (hg : n ≤ g) (hgw : g < w.heap.size) : CmpLays Tryz.prog 73 #[] ienc 4 (icf (w := w) (n := n)) g 0 size w := by
  intro m os dk _ x y
  have hb := below_sortK ienc 4 w g 0 m dk os hgw
  refine (item_compareB x.it y.it x.A y.A x.cap y.cap n _ x.le (Nat.le_trans hg (Nat.le_trans (Nat.le_of_lt hgw) hb.size)) (x.at_.keep (hb.toBelow.mono hg)) (y.at_.keep (hb.toBelow.mono hg))).mono fun e w' h => ⟨h.1, h.2.grow⟩
theorem run_sort {its : List It} {g cap B : Nat} (hown : OwnI w n B (.slice (some ⟨g, 0, none⟩) its.length cap) its) (hg : n ≤ g) (hgw : g < w.heap.size) (hc : ∀ t ∈ its, t.count ≤ 1099511627775) (hlen : its.length < 4611686018427387904) (hcap : its.length ≤ cap) :
    Calls Tryz.prog 72 #[.slice (some ⟨g, 0, none⟩) its.length cap, .func (.func 73) #[] #[]] w fun e w' =>
      e = .returned (.tuple #[]) ∧ ∃ d : List It, d.Perm its ∧ (∀ i j (hi : i < j) (hj : j < d.length), 0 ≤ itC (d[j]) (d[i])) ∧ RL w' (g + 1) d (some ⟨g, 0, none⟩) cap ∧ Bel g w w' := by
  obtain ⟨cs, h1, h2⟩ := hown
  obtain ⟨l, e1, e2⟩ := lay_ie h2 hc
  subst e2
  have hl : its.length = l.toArray.size := by rw [← e1, List.length_map, List.size_toArray]
  have h1' : w.ownsRow B 28 4 (.slice (some ⟨g, 0, none⟩) its.length cap) l.length (l.flatMap ienc) := by rw [hl, List.size_toArray] at h1 ⊢; exact h1
  have hH := holds_ie h1'
  have eg : ∀ args w, (callFunc 73 args).run Tryz.prog w = .ok (.enter 73 args) w := enters_of Tryz.func73 (by kernel_rfl) rfl
  have hcon := Go.Proofs.AnyQ.slices_SortFunc Tryz.sortItems 4 Tryz.isAgg28 Tryz.sizeOf28 ienc ienc_len (fun x => ic_one _ _ _) icf swo_icf 73 #[] g 0 cap l.toArray w eg (cmp_ie hg hgw) hH hgw (by rw [← hl]; exact hlen)
  rw [hl]
  refine Calls.mono hcon ?_
  rintro e w' ⟨rfl, d', m, os, ⟨hs, _, hp⟩, hsrt, rfl⟩
  have hb := below_sortK ienc 4 w g 0 m d' os hgw
  have hd := holdsK_sortWorldK ienc 4 w g 0 m l.toArray d' os hgw hH hs
  have hat := list_ie (hb.toBelow.mono hg) (Nat.lt_of_lt_of_le hgw hb.size) hg hd d'.size 0 (by omega)
  have hdl : (d'.toList.map IE.it).length = its.length := by rw [List.length_map, Array.length_toList, hs, ← hl]
  refine ⟨rfl, d'.toList.map IE.it, ?_, ?_, ⟨by rw [hdl]; exact hcap, fun h => (by cases h), by simpa using hat⟩, hb⟩
  · rw [← e1]
    refine List.Perm.map _ ?_
    have e3 : d'.extract 0 l.toArray.size = d' := by rw [← hs]; exact Array.extract_size
    have e4 : l.toArray.extract 0 l.toArray.size = l.toArray := Array.extract_size
    rw [e3, e4] at hp
    simpa using hp
  · intro i j hi hj
    rw [List.length_map, Array.length_toList] at hj
    have := hsrt i j (Nat.zero_le _) hi (by rw [← hs]; exact hj)
    rw [getElem!_pos d' j hj, getElem!_pos d' i (by omega)] at this
    have this := of_decide_eq_false this
    simp only [icf] at this
    simp only [List.getElem_map, Array.getElem_toList]
    omega
end
end Go.Proofs.YtjelgoeamaejmaaGreat

/- Plain floats: a format's sign, number and power; what is wide, what is shortest. -/
namespace Go.Proofs.YtjelgoeamaejmaaGreat

/-- The formats: width in bytes; the bits of the exponent, of the fraction; the least power (in halves of the least double). -/
inductive Fm : Int → Nat → Nat → Nat → Prop
  | half : Fm 2 5 10 1050
  | single : Fm 4 8 23 925
  | double : Fm 8 11 52 0

def fsg (E F x : Nat) : Nat := x / 2 ^ (E + F) % 2
def fex (E F x : Nat) : Nat := x / 2 ^ F % 2 ^ E
def ffr (F x : Nat) : Nat := x % 2 ^ F
def fnum (E F x : Nat) : Nat := if fex E F x = 0 then ffr F x else ffr F x + 2 ^ F
def fpow (E F O x : Nat) : Nat := fex E F x - 1 + O
/-- The value of a finite float, its sign apart. -/
def fval (E F O x : Nat) : Nat := fnum E F x * 2 ^ fpow E F O x
def fenc (E F O s M q : Nat) : Nat := s * 2 ^ (E + F) + (if M < 2 ^ F then M else (q - O + 1) * 2 ^ F + (M - 2 ^ F))
/-- A number and a power as a form has them. -/
def FNF (F O M q : Nat) : Prop := O ≤ q ∧ M < 2 ^ (F + 1) ∧ (2 ^ F ≤ M ∨ q = O)

section
variable {W : Int} {E F O x y : Nat}
theorem f_split (h : Fm W E F O) (hx : x < 2 ^ (1 + E + F)) : x = fsg E F x * 2 ^ (E + F) + fex E F x * 2 ^ F + ffr F x := by
  cases h <;> simp only [fsg, fex, ffr] at * <;> omega
theorem f_small (h : Fm W E F O) (x : Nat) : fsg E F x < 2 ∧ fex E F x < 2 ^ E ∧ ffr F x < 2 ^ F := by
  cases h <;> simp only [fsg, fex, ffr] <;> omega
/-- Put together out of parts. -/
theorem f_parts (h : Fm W E F O) {s e f : Nat} (hs : s < 2) (he : e < 2 ^ E) (hf : f < 2 ^ F) :
    s * 2 ^ (E + F) + e * 2 ^ F + f < 2 ^ (1 + E + F) ∧ fsg E F (s * 2 ^ (E + F) + e * 2 ^ F + f) = s ∧ fex E F (s * 2 ^ (E + F) + e * 2 ^ F + f) = e ∧ ffr F (s * 2 ^ (E + F) + e * 2 ^ F + f) = f := by
  cases h <;> simp only [fsg, fex, ffr] at * <;> omega
theorem f_nf (h : Fm W E F O) (x : Nat) : FNF F O (fnum E F x) (fpow E F O x) := by
  have := f_small h x
  unfold FNF fnum fpow
  cases h <;> split <;> omega
theorem f_enc (h : Fm W E F O) (hx : x < 2 ^ (1 + E + F)) : fenc E F O (fsg E F x) (fnum E F x) (fpow E F O x) = x := by
  have h1 := f_small h x
  have h2 := f_split h hx
  unfold fenc fnum fpow
  cases h <;> split <;> split <;> omega
/-- What a number and a power are as a form. -/
theorem f_dec (h : Fm W E F O) {s M q : Nat} (hs : s < 2) (hn : FNF F O M q) (hq : q - O + 1 < 2 ^ E - 1) :
    fenc E F O s M q < 2 ^ (1 + E + F) ∧ fsg E F (fenc E F O s M q) = s ∧ fex E F (fenc E F O s M q) < 2 ^ E - 1 ∧ fnum E F (fenc E F O s M q) = M ∧ fpow E F O (fenc E F O s M q) = q := by
  obtain ⟨h1, h2, h3⟩ := hn
  by_cases hM : M < 2 ^ F
  · have e : fenc E F O s M q = s * 2 ^ (E + F) + 0 * 2 ^ F + M := by unfold fenc; rw [if_pos hM]; omega
    have he : 0 < 2 ^ E := Nat.two_pow_pos E
    obtain ⟨p1, p2, p3, p4⟩ := f_parts h hs he hM
    rw [e]
    refine ⟨p1, p2, by omega, ?_, ?_⟩
    · unfold fnum; rw [p3, if_pos rfl, p4]
    · unfold fpow; rw [p3]; omega
  · have e : fenc E F O s M q = s * 2 ^ (E + F) + (q - O + 1) * 2 ^ F + (M - 2 ^ F) := by unfold fenc; rw [if_neg hM]; omega
    have hf : M - 2 ^ F < 2 ^ F := by rw [Nat.pow_succ] at h2; omega
    obtain ⟨p1, p2, p3, p4⟩ := f_parts h hs (show q - O + 1 < 2 ^ E by omega) hf
    rw [e]
    refine ⟨p1, p2, by omega, ?_, ?_⟩
    · unfold fnum; rw [p3, if_neg (by omega), p4]; omega
    · unfold fpow; rw [p3]; omega

theorem nf_low {F O M q M' q' : Nat} (h : FNF F O M q) (h' : FNF F O M' q') (e : M * 2 ^ q = M' * 2 ^ q') : ¬ q < q' := by
  intro hlt
  obtain ⟨a, b, c⟩ := h
  obtain ⟨a', b', c'⟩ := h'
  have hM : 2 ^ F ≤ M' := by omega
  have : q' = q + (q' - q) := by omega
  rw [this, Nat.pow_add, ← Nat.mul_assoc, Nat.mul_right_comm] at e
  have e2 := Nat.eq_of_mul_eq_mul_right (Nat.two_pow_pos q) e
  have hp : 2 ≤ 2 ^ (q' - q) := by
    have := Nat.pow_le_pow_right (show 0 < 2 by decide) (show 1 ≤ q' - q by omega)
    omega
  have := Nat.mul_le_mul hM hp
  rw [Nat.pow_succ] at b
  omega
theorem nf_same {F O M q M' q' : Nat} (h : FNF F O M q) (h' : FNF F O M' q') (e : M * 2 ^ q = M' * 2 ^ q') : M = M' ∧ q = q' := by
  have a := nf_low h h' e
  have b := nf_low h' h e.symm
  have hq : q = q' := by omega
  subst hq
  exact ⟨Nat.eq_of_mul_eq_mul_right (Nat.two_pow_pos q) e, rfl⟩
/-- A form is known by its sign and its value. -/
theorem f_inj (h : Fm W E F O) (hx : x < 2 ^ (1 + E + F)) (hy : y < 2 ^ (1 + E + F)) (hs : fsg E F x = fsg E F y) (hv : fval E F O x = fval E F O y) : x = y := by
  obtain ⟨a, b⟩ := nf_same (f_nf h x) (f_nf h y) hv
  rw [← f_enc h hx, ← f_enc h hy, hs, a, b]

def FNan (E F x : Nat) : Prop := fex E F x = 2 ^ E - 1 ∧ ffr F x ≠ 0
instance instFNan (E F x : Nat) : Decidable (FNan E F x) := by unfold FNan; exact inferInstance
def finf (E F s : Nat) : Nat := s * 2 ^ (E + F) + (2 ^ E - 1) * 2 ^ F
/-- The double x is the form y, wider. -/
def Wide (E F O y x : Nat) : Prop :=
  y < 2 ^ (1 + E + F) ∧ x < 2 ^ 64 ∧ ((FNan E F y ∧ x = 9221120237041090560) ∨ (fex E F y = 2 ^ E - 1 ∧ ffr F y = 0 ∧ x = finf 11 52 (fsg E F y)) ∨
    (fex E F y < 2 ^ E - 1 ∧ fex 11 52 x < 2047 ∧ fsg 11 52 x = fsg E F y ∧ fval 11 52 0 x = fval E F O y))
theorem inf_parts (h : Fm W E F O) {s : Nat} (hs : s < 2) : finf E F s < 2 ^ (1 + E + F) ∧ fsg E F (finf E F s) = s ∧ fex E F (finf E F s) = 2 ^ E - 1 ∧ ffr F (finf E F s) = 0 := by
  have := f_parts h hs (show 2 ^ E - 1 < 2 ^ E by have := Nat.two_pow_pos E; omega) (Nat.two_pow_pos F)
  exact this
theorem inf_of (h : Fm W E F O) (hx : x < 2 ^ (1 + E + F)) (he : fex E F x = 2 ^ E - 1) (hf : ffr F x = 0) : x = finf E F (fsg E F x) := by
  have := f_split h hx
  rw [he, hf] at this
  exact this
theorem nan_wide : FNan 11 52 9221120237041090560 := by unfold FNan fex ffr; decide
theorem wide_fun (_h : Fm W E F O) {x' : Nat} (a : Wide E F O y x) (b : Wide E F O y x') : x = x' := by
  obtain ⟨_, ax, a⟩ := a
  obtain ⟨_, bx, b⟩ := b
  rcases a with ⟨⟨a1, a2⟩, a3⟩ | ⟨a1, a2, a3⟩ | ⟨a1, a2, a3, a4⟩ <;> rcases b with ⟨⟨b1, b2⟩, b3⟩ | ⟨b1, b2, b3⟩ | ⟨b1, b2, b3, b4⟩ <;> first | omega | skip
  exact f_inj .double ax bx (a3.trans b3.symm) (a4.trans b4.symm)
theorem wide_inj (h : Fm W E F O) {y' : Nat} (a : Wide E F O y x) (b : Wide E F O y' x) (hx : ¬ FNan 11 52 x) : y = y' := by
  obtain ⟨ay, ax, a⟩ := a
  obtain ⟨yb, bx, b⟩ := b
  rcases a with ⟨⟨a1, a2⟩, a3⟩ | ⟨a1, a2, a3⟩ | ⟨a1, a2, a3, a4⟩
  · exact absurd (a3 ▸ nan_wide) hx
  all_goals rcases b with ⟨⟨b1, b2⟩, b3⟩ | ⟨b1, b2, b3⟩ | ⟨b1, b2, b3, b4⟩
  · exact absurd (b3 ▸ nan_wide) hx
  · have i1 := inf_parts .double (f_small h y).1
    have i2 := inf_parts .double (f_small h y').1
    rw [← a3] at i1
    rw [← b3] at i2
    rw [inf_of h ay a1 a2, inf_of h yb b1 b2, ← i1.2.1, ← i2.2.1]
  · have i1 := inf_parts .double (f_small h y).1
    rw [← a3] at i1
    omega
  · exact absurd (b3 ▸ nan_wide) hx
  · have i1 := inf_parts .double (f_small h y').1
    rw [← b3] at i1
    omega
  · exact f_inj h ay yb (a3.symm.trans b3) (a4.symm.trans b4)
/-- The shortest form of the double x is z, of v bytes. -/
def Shortest (x z v : Nat) : Prop :=
  (FNan 11 52 x ∧ z = 32256 ∧ v = 2) ∨ (¬ FNan 11 52 x ∧ ((v = 2 ∧ Wide 5 10 1050 z x) ∨ (v = 4 ∧ Wide 8 23 925 z x ∧ ∀ y, ¬ Wide 5 10 1050 y x) ∨
    (v = 8 ∧ z = x ∧ (∀ y, ¬ Wide 5 10 1050 y x) ∧ ∀ y, ¬ Wide 8 23 925 y x)))
theorem shortest_fun {z v z' v' : Nat} (a : Shortest x z v) (b : Shortest x z' v') : z = z' ∧ v = v' := by
  rcases a with ⟨a0, a1, a2⟩ | ⟨a0, a⟩ <;> rcases b with ⟨b0, b1, b2⟩ | ⟨b0, b⟩
  · omega
  · exact absurd a0 b0
  · exact absurd b0 a0
  rcases a with ⟨a1, a2⟩ | ⟨a1, a2, a3⟩ | ⟨a1, a2, a3, a4⟩ <;> rcases b with ⟨b1, b2⟩ | ⟨b1, b2, b3⟩ | ⟨b1, b2, b3, b4⟩
  · exact ⟨wide_inj .half a2 b2 a0, by omega⟩
  · exact absurd a2 (b3 _)
  · exact absurd a2 (b3 _)
  · exact absurd b2 (a3 _)
  · exact ⟨wide_inj .single a2 b2 a0, by omega⟩
  · exact absurd a2 (b4 _)
  · exact absurd b2 (a3 _)
  · exact absurd b2 (a4 _)
  · omega
end
end Go.Proofs.YtjelgoeamaejmaaGreat
