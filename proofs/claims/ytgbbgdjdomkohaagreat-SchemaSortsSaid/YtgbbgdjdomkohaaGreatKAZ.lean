/- slices.SortFunc over items: what the library says of it, in terms of items. -/
import Derived.Test.YtgbbgdjdomkohaaGreatKAR
import Derived.Test.YtgbbgdjdomkohaaGreatKAY
import Derived.Shelf.SlSortCmp.WholeK
import Derived.Shelf.SlSortCmp.Whole1
import Derived.Shelf.SlSortCmp.NoneTotal
import Derived.Test.YtgbbgdjdomkohaaGreatKAB
import Derived.Carry
namespace Go.Proofs.YtgbbgdjdomkohaaGreat
open Go.RowKit Go.Sort

/-- An item with the place of its list, below block n of w. -/
structure IE (w : World) (n : Nat) where
  it : It
  A : Option Addr
  cap : Nat
  at_ : AtB w n it A cap
  le : it.count ≤ 1099511627775
instance instIE (w : World) (n : Nat) : Inhabited (IE w n) := ⟨⟨.mk 0 0 ⟨#[]⟩ [], none, 0, ⟨Nat.le_refl _, fun _ => rfl, AtL.nil _⟩, by rw [It.count_eq]; simp [It.l, countL]⟩⟩
section
variable {w w' : World} {n : Nat}
def ienc (x : IE w n) : List Value := ic x.it x.A x.cap
def icf (x y : IE w n) : Int := itC x.it y.it
theorem ienc_len (x : IE w n) : (ienc x).length = 4 := rfl
theorem swo_icf : SWO (Go.Proofs.ltOf (icf (w := w) (n := n))) where
  irrefl x := by unfold Go.Proofs.ltOf icf; rw [itC_cmp.refl]; rfl
  trans x y z h1 h2 := by
    unfold Go.Proofs.ltOf icf at *
    simp only [decide_eq_true_eq] at *
    exact itC_cmp.tr _ _ _ h1 h2
  ntrans x y z h1 h2 := by
    unfold Go.Proofs.ltOf icf at *
    simp only [decide_eq_false_iff_not, Int.not_lt] at *
    have a1 := itC_cmp.anti x.it y.it
    have a2 := itC_cmp.anti y.it z.it
    have a3 := itC_cmp.anti x.it z.it
    have := itC_cmp.le_trans (x := z.it) (y := y.it) (z := x.it) (by omega) (by omega)
    omega
/-- Cells of items, as a list of items with their places. -/
theorem lay_ie : ∀ {its : List It} {cs : List Value}, Lay w n its cs → (∀ t ∈ its, t.count ≤ 1099511627775) → ∃ l : List (IE w n), l.map IE.it = its ∧ l.flatMap ienc = cs
  | [], cs, h, _ => ⟨[], rfl, (show cs = [] from h).symm⟩
  | t :: r, cs, ⟨A, cap, c, e, h1, h2⟩, hc => by
    obtain ⟨l, e1, e2⟩ := lay_ie h2 fun t ht => hc t (List.mem_cons_of_mem _ ht)
    exact ⟨⟨t, A, cap, h1, hc t (List.mem_cons_self ..)⟩ :: l, by rw [List.map_cons, e1], by rw [List.flatMap_cons, e2, e]; rfl⟩
theorem flat_get : ∀ (l : List (IE w n)) (j : Nat), j < l.length * 4 → (l.flatMap ienc)[j]! = (ienc l.toArray[j / 4]!)[j % 4]!
  | [], j, h => by simp at h
  | x :: l, j, h => by
    rw [List.flatMap_cons]
    by_cases hj : j < 4
    · rw [Nat.div_eq_of_lt hj, Nat.mod_eq_of_lt hj, List.getElem!_eq_getElem?_getD, List.getElem?_append_left (by rw [ienc_len]; exact hj), List.getElem!_eq_getElem?_getD]
      rfl
    · have ih := flat_get l (j - 4) (by rw [List.length_cons] at h; omega)
      rw [List.getElem!_eq_getElem?_getD, List.getElem?_append_right (by rw [ienc_len]; omega), ienc_len, ← List.getElem!_eq_getElem?_getD, ih]
      have e1 : j / 4 = (j - 4) / 4 + 1 := by omega
      have e2 : (j - 4) % 4 = j % 4 := by omega
      rw [e1, e2]
      congr 2
      simp [getElem!_def]
theorem holds_ie {B g cap m : Nat} {l : List (IE w n)} {e : TypeId} (h : w.ownsRow B e 4 (.slice (some ⟨g, 0, none⟩) m cap) l.length (l.flatMap ienc)) : HoldsK ienc 4 w g 0 l.toArray := by
  intro j hj
  rw [size_flatK, List.size_toArray] at hj
  rw [Nat.zero_add, get_flatK _ _ _ _ (by rw [List.size_toArray]; exact hj), ← flat_get l j hj]
  obtain ⟨h1, h2⟩ := oc_cell h hj
  refine ⟨?_, h2⟩
  rw [h1, List.getElem!_eq_getElem?_getD]
  have hl : (l.flatMap ienc).length = l.length * 4 := by
    clear h hj h1 h2
    induction l with
    | nil => rfl
    | cons x l ih => rw [List.flatMap_cons, List.length_append, ih, ienc_len, List.length_cons]; omega
  rw [List.getElem?_eq_getElem (by omega)]
  rfl
/-- The other way about: a block that holds such items is a list in memory. -/
theorem list_ie {g : Nat} {d : Array (IE w n)} (hb : Below n w w') (hg : g < w'.heap.size) (hn : n ≤ g) (h : HoldsK ienc 4 w' g 0 d) : ∀ (k i : Nat), i + k = d.size → AtL w' (· < g + 1) ((d.toList.drop i).map IE.it) (some ⟨g, 4 * i, none⟩)
  | 0, i, hi => by
    rw [List.drop_eq_nil_of_le (by rw [Array.length_toList]; omega)]
    exact AtL.nil _
  | k + 1, i, hi => by
    have hlt : i < d.size := by omega
    have ih := list_ie hb hg hn h k (i + 1) (by omega)
    rw [List.drop_eq_getElem_cons (by rw [Array.length_toList]; exact hlt), List.map_cons]
    have hx : d[i]! = d.toList[i]'(by rw [Array.length_toList]; exact hlt) := by rw [getElem!_pos d i hlt]; rfl
    have hc := fun c (hc : c < 4) => (h.cell hlt hc).1
    rw [hx] at hc
    obtain ⟨⟨t, A, cap, ha, hcount⟩, e⟩ : ∃ x, d.toList[i]'(by rw [Array.length_toList]; exact hlt) = x := ⟨_, rfl⟩
    rw [e] at hc ⊢
    have ha' := ha.keep hb
    refine AtL.mk (by omega) hg (At1.mk A cap ?_ ?_ ?_ ?_ ha'.le ha'.nil (ha'.at_.more fun b hb => by omega)) ih
    · have := hc 0 (by omega); rw [Nat.zero_add, Nat.add_zero, Nat.mul_comm] at this; exact this
    · have := hc 1 (by omega); rw [Nat.zero_add, Nat.mul_comm] at this; exact this
    · have := hc 2 (by omega); rw [Nat.zero_add, Nat.mul_comm] at this; exact this
    · have := hc 3 (by omega); rw [Nat.zero_add, Nat.mul_comm] at this; exact this
theorem below_sortK {α : Type} [Inhabited α] (enc : α → List Value) (k : Nat) (w : World) (g off m : Nat) (dk : Array α) (os : Array Obj) (hg : g < w.heap.size) : Bel g w (sortWorldK enc k w g off m dk os) := by
  refine ⟨⟨rfl, rfl, rfl, ?_, fun b hb => ?_⟩, Nat.le_add_right _ _⟩
  · simp [sortWorldK, putRowK, putRow, mapBlock, Sort.ahead, Sort.grow]
  · simp only [sortWorldK, putRowK, putRow, mapBlock, Sort.ahead, Sort.grow]
    rw [Array.getElem?_append_left (by rw [Array.size_modify]; omega), Array.getElem?_modify, if_neg (by omega)]
theorem cmp_ie {g size : Nat} (hg : n ≤ g) (hgw : g < w.heap.size) : CmpLays Tryz.prog 56 #[] ienc 4 (icf (w := w) (n := n)) g 0 size w := by
  intro m os dk _ x y
  have hb := below_sortK ienc 4 w g 0 m dk os hgw
  refine (item_compareB x.it y.it x.A y.A x.cap y.cap n _ x.le (Nat.le_trans hg (Nat.le_trans (Nat.le_of_lt hgw) hb.size)) (x.at_.keep (hb.toBelow.mono hg)) (y.at_.keep (hb.toBelow.mono hg))).mono fun e w' h => ⟨h.1, h.2.grow⟩
theorem run_sort {its : List It} {g cap B : Nat} (hown : OwnI w n B (.slice (some ⟨g, 0, none⟩) its.length cap) its) (hg : n ≤ g) (hgw : g < w.heap.size) (hc : ∀ t ∈ its, t.count ≤ 1099511627775) (hlen : its.length < 4611686018427387904) (hcap : its.length ≤ cap) :
    Calls Tryz.prog 59 #[.slice (some ⟨g, 0, none⟩) its.length cap, .func (.func 56) #[] #[]] w fun e w' =>
      e = .returned (.tuple #[]) ∧ ∃ d : List It, d.Perm its ∧ (∀ i j (hi : i < j) (hj : j < d.length), 0 ≤ itC (d[j]) (d[i])) ∧ RL w' (g + 1) d (some ⟨g, 0, none⟩) cap ∧ Bel g w w' := by
  obtain ⟨cs, h1, h2⟩ := hown
  obtain ⟨l, e1, e2⟩ := lay_ie h2 hc
  subst e2
  have hl : its.length = l.toArray.size := by rw [← e1, List.length_map, List.size_toArray]
  have h1' : w.ownsRow B 31 4 (.slice (some ⟨g, 0, none⟩) its.length cap) l.length (l.flatMap ienc) := by rw [hl, List.size_toArray] at h1 ⊢; exact h1
  have hH := holds_ie h1'
  have eg : ∀ args w, (callFunc 56 args).run Tryz.prog w = .ok (.enter 56 args) w := enters_of Tryz.func56 (by kernel_rfl) rfl
  have hcon := Go.Proofs.AnyQ.slices_SortFunc Tryz.sortItems 4 Tryz.isAgg31 Tryz.sizeOf31 ienc ienc_len (fun x => ic_one _ _ _) icf swo_icf 56 #[] g 0 cap l.toArray w eg (cmp_ie hg hgw) hH hgw (by rw [← hl]; exact hlen)
  rw [hl]
  refine Calls.mono hcon ?_
  rintro e w' ⟨rfl, d', m, os, ⟨hs, _, hp⟩, hsrt, rfl⟩
  have hb := below_sortK ienc 4 w g 0 m d' os hgw
  have hd := holdsK_sortWorldK ienc 4 w g 0 m l.toArray d' os hgw hH hs
  have hat := list_ie (hb.toBelow.mono hg) (Nat.lt_of_lt_of_le hgw hb.size) hg hd d'.size 0 (by omega)
  have hdl : (d'.toList.map IE.it).length = its.length := by rw [List.length_map, Array.length_toList, hs, ← hl]
  refine ⟨rfl, d'.toList.map IE.it, ?_, ?_, ⟨by rw [hdl]; exact hcap, fun h => (by cases h), by simpa using hat⟩, hb⟩
  · rw [← e1]
    refine List.Perm.map _ ?_
    have e3 : d'.extract 0 l.toArray.size = d' := by rw [← hs]; exact Array.extract_size
    have e4 : l.toArray.extract 0 l.toArray.size = l.toArray := Array.extract_size
    rw [e3, e4] at hp
    simpa using hp
  · intro i j hi hj
    rw [List.length_map, Array.length_toList] at hj
    have := hsrt i j (Nat.zero_le _) hi (by rw [← hs]; exact hj)
    rw [getElem!_pos d' j hj, getElem!_pos d' i (by omega)] at this
    have this := of_decide_eq_false this
    simp only [icf] at this
    simp only [List.getElem_map, Array.getElem_toList]
    omega
end
end Go.Proofs.YtgbbgdjdomkohaaGreat

/- Package enc: the numbers of pairs, sorted. -/
namespace Go.Proofs.YtgbbgdjdomkohaaGreat
open Go.RowKit Go.Sort

/-- A pair's number. -/
structure PN (l : List It) where
  i : Nat
  a : It
  b : It
  hi : i < l.length / 2
  ha : l[2 * i]? = some a
  hb : l[2 * i + 1]? = some b
def pnEnc {l : List It} (x : PN l) : Value := .int .i64 (x.i : Int)
noncomputable def pnCmp {l : List It} (x y : PN l) : Int := pcmp (x.a, x.b) (y.a, y.b)
theorem swo_pn {l : List It} : SWO (Go.Proofs.ltOf (pnCmp (l := l))) where
  irrefl x := by unfold Go.Proofs.ltOf pnCmp; rw [pcmp_cmp.refl]; rfl
  trans x y z h1 h2 := by
    unfold Go.Proofs.ltOf pnCmp at *
    simp only [decide_eq_true_eq] at *
    exact pcmp_cmp.tr _ _ _ h1 h2
  ntrans x y z h1 h2 := by
    unfold Go.Proofs.ltOf pnCmp at *
    simp only [decide_eq_false_iff_not, Int.not_lt] at *
    have a1 := pcmp_cmp.anti (x.a, x.b) (y.a, y.b)
    have a2 := pcmp_cmp.anti (y.a, y.b) (z.a, z.b)
    have a3 := pcmp_cmp.anti (x.a, x.b) (z.a, z.b)
    have := pcmp_cmp.le_trans (x := (z.a, z.b)) (y := (y.a, y.b)) (z := (x.a, x.b)) (by omega) (by omega)
    omega
theorem only_sort {α : Type} [Inhabited α] (enc : α → Value) (w : World) (g off m : Nat) (dk : Array α) (os : Array Obj) : Only g w (sortWorld enc w g off m dk os) ∧ w.drawn ≤ (sortWorld enc w g off m dk os).drawn := by
  refine ⟨⟨rfl, rfl, rfl, ?_, fun b hl hne => ?_⟩, Nat.le_add_right _ _⟩
  · simp [sortWorld, putRow, mapBlock, Sort.ahead, Sort.grow]
  · simp only [sortWorld, putRow, mapBlock, Sort.ahead, Sort.grow]
    have hb : b ≠ g := fun e => hne (by rw [e])
    rw [Array.getElem?_append_left (by rw [Array.size_modify]; exact hl), Array.getElem?_modify, if_neg (fun e => hb e.symm)]
theorem cmp_pn {W : World} {p gk gi K cap size : Nat} {A : Option Addr} {l : List It} [Inhabited (PN l)] (ck : Ck W p gk gi K A cap l) (hok : okEL l) (hbk : bulkL l ≤ 1099511627776) :
    CmpLays1 Tryz.prog 54 #[.pointer (some ⟨gk, 0, none⟩), .pointer (some ⟨gi, 0, none⟩)] pnEnc (pnCmp (l := l)) p 0 size W := by
  intro m os dk _ x y
  have ho := only_sort pnEnc W p 0 m dk os
  have C := rising_cmp (ck.only ho.1) hok hbk x.hi y.hi x.ha x.hb y.ha y.hb
  exact (calls_bel C).mono fun _ _ h => ⟨h.1, h.2.grow⟩
/-- The numbers from 0 on, by pairs. -/
theorem pn_list (l : List It) : ∃ d : List (PN l), d.length = l.length / 2 ∧ (d.map fun x => (x.a, x.b)) = pairsOf l ∧ ∀ (i : Nat) (x : PN l), d[i]? = some x → x.i = i := by
  have key : ∀ k, k ≤ l.length / 2 → ∃ d : List (PN l), d.length = k ∧ (d.map fun x => (x.a, x.b)) = (pairsOf l).take k ∧ ∀ (i : Nat) (x : PN l), d[i]? = some x → x.i = i := by
    intro k
    induction k with
    | zero => intro _; exact ⟨[], rfl, rfl, fun i x h => by simp at h⟩
    | succ k ih =>
      intro hk
      obtain ⟨d, h1, h2, h3⟩ := ih (by omega)
      obtain ⟨a, b, ha, hb, hp⟩ := pairs_get l k (by rw [length_pairs]; omega)
      refine ⟨d ++ [⟨k, a, b, by omega, ha, hb⟩], by simp [h1], ?_, fun i x hx => ?_⟩
      · rw [List.map_append, h2, List.take_add_one, hp]
        rfl
      · rcases Nat.lt_or_ge i d.length with h | h
        · rw [List.getElem?_append_left h] at hx
          exact h3 i x hx
        · rw [List.getElem?_append_right h] at hx
          have : i - d.length = 0 := by
            rcases Nat.eq_zero_or_pos (i - d.length) with h | h
            · exact h
            · rw [List.getElem?_eq_none (by simp; omega)] at hx; cases hx
          rw [this] at hx
          have hx : (⟨k, a, b, by omega, ha, hb⟩ : PN l) = x := by simpa using hx
          rw [← hx]
          show k = i
          omega
  obtain ⟨d, h1, h2, h3⟩ := key _ (Nat.le_refl _)
  refine ⟨d, h1, ?_, h3⟩
  rw [h2, ← length_pairs, List.take_length]
/-- slices.SortFunc over the numbers of pairs. -/
theorem sort_pairs {W : World} {p gk gi K cap : Nat} {A : Option Addr} {l : List It} (ck : Ck W p gk gi K A cap l) (hok : okEL l) (hbk : bulkL l ≤ 1099511627776) (hpos : 0 < l.length / 2) {n : Nat} (hn : l.length / 2 = n)
    (hp : Blk W p 3 (nums .i64 ((List.range n).map fun i : Nat => (i : Int)))) :
    Calls Tryz.prog 53 #[.slice (some ⟨p, 0, none⟩) n n, .func (.func 54) #[] #[.pointer (some ⟨gk, 0, none⟩), .pointer (some ⟨gi, 0, none⟩)]] W fun e w' =>
      e = .returned (.tuple #[]) ∧ ∃ d : List (PN l), d.length = n ∧ flatP (d.map fun x => (x.a, x.b)) = risen l ∧ (∀ (i : Nat) (x : PN l), d[i]? = some x → w'.cell? ⟨p, i, none⟩ = some (.int .i64 (x.i : Int))) ∧ Only p W w' := by
  obtain ⟨d, h1, h2, h3⟩ := pn_list l
  have hd0 : 0 < d.length := by omega
  haveI : Inhabited (PN l) := ⟨d[0]⟩
  have hcell : ∀ i : Nat, i < n → W.cell? ⟨p, i, none⟩ = some (.int .i64 (i : Int)) := fun i hi => by
    rw [hp.cell]
    unfold nums
    simp [hi]
  have hH : Holds pnEnc W p 0 d.toArray := by
    intro j hj
    rw [List.size_toArray] at hj
    refine ⟨?_, hp.free _⟩
    rw [Nat.zero_add, hcell j (by omega)]
    have : d.toArray[j]! = d[j] := by rw [getElem!_pos d.toArray j (by simpa using hj)]; rfl
    rw [this]
    show _ = some (Value.int .i64 ((d[j]).i : Int))
    rw [h3 j d[j] (List.getElem?_eq_getElem hj)]
  have eg : ∀ args w, (callFunc 54 args).run Tryz.prog w = .ok (.enter 54 args) w := enters_of Tryz.func54 (by kernel_rfl) rfl
  have hml := bulk_length l
  have hcon := Go.Proofs.Any.slices_SortFunc Tryz.sortInts pnEnc (fun _ => rfl) pnCmp swo_pn 54 #[.pointer (some ⟨gk, 0, none⟩), .pointer (some ⟨gi, 0, none⟩)] p 0 n d.toArray W eg (cmp_pn ck hok hbk) hH hp.lt (by rw [List.size_toArray]; omega)
  rw [show n = d.toArray.size by rw [List.size_toArray]; omega]
  rw [show n = d.toArray.size by rw [List.size_toArray]; omega] at hcon
  refine Calls.mono hcon ?_
  rintro e w' ⟨rfl, d', m, os, ⟨hs, _, hpm⟩, hsrt, rfl⟩
  have hpm' : d'.toList.Perm d := by
    have e3 : d'.extract 0 d.toArray.size = d' := by rw [← hs]; exact Array.extract_size
    have e4 : d.toArray.extract 0 d.toArray.size = d.toArray := Array.extract_size
    rw [e3, e4] at hpm
    simpa using hpm
  refine ⟨rfl, d'.toList, by rw [Array.length_toList, hs], ?_, fun i x hx => ?_, (only_sort pnEnc W p 0 m d' os).1⟩
  · refine risen_of hok (by rw [← h2]; exact hpm'.map _) fun i j hi hj => ?_
    rw [List.length_map, Array.length_toList] at hj
    have := hsrt i j (Nat.zero_le _) hi (by rw [← hs]; exact hj)
    rw [getElem!_pos d' j hj, getElem!_pos d' i (by omega)] at this
    have := of_decide_eq_false this
    simp only [pnCmp] at this
    simp only [List.getElem_map, Array.getElem_toList]
    omega
  · have hh := holds_sortWorld pnEnc W p 0 m d.toArray d' os hp.lt hH hs
    have hlt : i < d'.size := by
      rcases Nat.lt_or_ge i d'.toList.length with h | h
      · rwa [Array.length_toList] at h
      · rw [List.getElem?_eq_none h] at hx; cases hx
    have h5 := (hh i hlt).1
    rw [Nat.zero_add] at h5
    rw [h5]
    have h6 : d'[i]! = x := by
      rw [getElem!_pos d' i hlt]
      have : d'.toList[i]? = some x := hx
      rw [Array.getElem?_toList, Array.getElem?_eq_getElem hlt] at this
      injection this
    rw [h6]
    rfl
end Go.Proofs.YtgbbgdjdomkohaaGreat

/- Package enc: rising. -/
namespace Go.Proofs.YtgbbgdjdomkohaaGreat
open Go.RowKit Go.Sort

theorem keysInfo : (Tryz.prog.info? 46).map (fun i => (i.zero, i.size, i.bytes)) = some (some (.slice none 0 0), 1, 24) := by kernel_rfl
theorem intsInfo : (Tryz.prog.info? 3).map (fun i => (i.zero, i.size, i.bytes)) = some (some (.int .i64 0), 1, 8) := by kernel_rfl
theorem made_one (z : Value) (n : Nat) : madeCells #[z] n = Array.replicate n z := by
  apply Array.ext
  · simp [size_madeCells]
  · intro i h1 h2
    simp [madeCells, Nat.mod_one]
theorem make_keys (n : Nat) (hn : n ≤ 1099511627776) (W : World) : (Instr.makeSlice 92 (.int .i64 (n : Int)) (.int .i64 (n : Int))).run Tryz.prog W = .ok (.slice (some ⟨W.heap.size, 0, none⟩) n n) (W.alloc (.cells (Array.replicate n (.slice none 0 0)) 46)) := by
  obtain ⟨i0, hi, hz0, hz1, hz2⟩ := info_parts keysInfo
  have h := run_make (P := Tryz.prog) W 92 46 i0 _ (by kernel_rfl) hi hz0 .i64 .i64 (n : Int) (n : Int) (by omega) (by omega) (by rw [hz2]; omega) (by omega)
  rw [Int.toNat_natCast, hz1, Nat.mul_one, show (Value.slice none 0 0).cells = #[.slice none 0 0] from rfl, made_one] at h
  exact h
theorem make_ints (n : Nat) (hn : n ≤ 1099511627776) (W : World) : (Instr.makeSlice 32 (.int .i64 (n : Int)) (.int .i64 (n : Int))).run Tryz.prog W = .ok (.slice (some ⟨W.heap.size, 0, none⟩) n n) (W.alloc (.cells (Array.replicate n (.int .i64 0)) 3)) := by
  obtain ⟨i0, hi, hz0, hz1, hz2⟩ := info_parts intsInfo
  have h := run_make (P := Tryz.prog) W 32 3 i0 _ (by kernel_rfl) hi hz0 .i64 .i64 (n : Int) (n : Int) (by omega) (by omega) (by rw [hz2]; omega) (by omega)
  rw [Int.toNat_natCast, hz1, Nat.mul_one, show (Value.int .i64 0).cells = #[.int .i64 0] from rfl, made_one] at h
  exact h
/-- The numbers of the first j pairs. -/
def ints (j n : Nat) : Array Value := (Array.range n).map fun i => .int .i64 (if i < j then (i : Int) else 0)
theorem size_ints (j n : Nat) : (ints j n).size = n := by simp [ints]
theorem ints_zero (n : Nat) : Array.replicate n (Value.int .i64 0) = ints 0 n := by
  apply Array.ext
  · simp [ints]
  · intro i h1 h2; simp [ints]
theorem ints_set {j n : Nat} (_hj : j < n) : (ints j n).setIfInBounds j (.int .i64 (j : Int)) = ints (j + 1) n := by
  apply Array.ext
  · simp [ints]
  · intro i h1 h2
    rw [Array.getElem_setIfInBounds (by simpa using h1)]
    simp only [ints, Array.getElem_map, Array.getElem_range]
    by_cases e : j = i
    · subst e; simp
    · rw [if_neg e]
      congr 1
      by_cases h : i < j
      · rw [if_pos h, if_pos (by omega)]
      · rw [if_neg h, if_neg (by omega)]
theorem ints_all (n : Nat) : ints n n = nums .i64 ((List.range n).map fun i : Nat => (i : Int)) := by
  apply Array.ext
  · simp [ints, nums]
  · intro i h1 h2
    have : i < n := by simpa [ints] using h1
    simp [ints, nums, this]
/-- rising's memory, the first j keys laid. -/
structure RS (w0 wr : World) (g : Nat) (A : Option Addr) (cap : Nat) (l : List It) (n j : Nat) : Prop where
  bi : Blk wr g 29 #[.slice A l.length cap]
  bk : Blk wr (g + 2) 92 #[.slice (some ⟨g + 1, 0, none⟩) n n]
  bp : Blk wr (g + 3) 3 (ints j n)
  kb : ∃ kv : Array Value, kv.size = n ∧ Blk wr (g + 1) 46 kv ∧ ∀ (i : Nat) (a : It), i < j → l[2 * i]? = some a → ∃ Ai ci, kv[i]? = some (.slice Ai a.enc.length ci) ∧ RdX wr (g + 1) .u8 Ai a.enc ∧ RdX wr (g + 3) .u8 Ai a.enc
  low : Below g w0 wr
theorem RS.on {w0 wr W : World} {g : Nat} {A : Option Addr} {cap : Nat} {l : List It} {n j : Nat} (h : RS w0 wr g A cap l n j) (hb : Below wr.heap.size wr W) : RS w0 W g A cap l n j := by
  obtain ⟨kv, h1, h2, h3⟩ := h.kb
  refine ⟨h.bi.on hb, h.bk.on hb, h.bp.on hb, ⟨kv, h1, h2.on hb, fun i a hi ha => ?_⟩, h.low.trans (hb.mono (Nat.le_of_lt h.bi.lt))⟩
  obtain ⟨Ai, ci, q1, q2, q3⟩ := h3 i a hi ha
  exact ⟨Ai, ci, q1, q2.below hb, q3.below hb⟩
/-- One more key. -/
theorem RS.step {w0 w6 : World} {g : Nat} {A : Option Addr} {cap : Nat} {l : List It} {n j B : Nat} {Av : Option Addr} {cv : Nat} {a : It} (h : RS w0 w6 g A cap l n j) (hj : j < n) (ha : l[2 * j]? = some a) (ho : Own w6 B .u8 5 (.slice Av a.enc.length cv) a.enc) (hB : g + 4 ≤ B) :
    RS w0 ((w6.setCell ⟨g + 1, j, none⟩ (.slice Av a.enc.length cv)).setCell ⟨g + 3, j, none⟩ (.int .i64 (j : Int))) g A cap l n (j + 1) := by
  obtain ⟨kv, h1, h2, h3⟩ := h.kb
  have o1 : Only (g + 1) w6 (w6.setCell ⟨g + 1, j, none⟩ (.slice Av a.enc.length cv)) := ⟨rfl, rfl, rfl, by simp [World.setCell], fun i _ hne => Below.heap_setCell _ _ _ _ (fun e => hne (by rw [e]))⟩
  obtain ⟨W, hW⟩ : ∃ W, w6.setCell ⟨g + 1, j, none⟩ (.slice Av a.enc.length cv) = W := ⟨_, rfl⟩
  have k1 := h2.put j (.slice Av a.enc.length cv)
  rw [hW] at o1 k1 ⊢
  have o2 : Only (g + 3) W (W.setCell ⟨g + 3, j, none⟩ (.int .i64 (j : Int))) := ⟨rfl, rfl, rfl, by simp [World.setCell], fun i _ hne => Below.heap_setCell _ _ _ _ (fun e => hne (by rw [e]))⟩
  have k2 := (h.bp.only o1 (by omega)).put j (.int .i64 (j : Int))
  rw [ints_set hj] at k2
  have low : Below g w6 W := by rw [← hW]; exact (Below.refl g w6).setCell (p := ⟨g + 1, j, none⟩) (by show g ≤ g + 1; omega) _
  refine ⟨(h.bi.only o1 (by omega)).only o2 (by omega), (h.bk.only o1 (by omega)).only o2 (by omega), k2, ⟨_, by simpa using h1, k1.only o2 (by omega), fun i a' hi ha' => ?_⟩, (h.low.trans low).setCell (p := ⟨g + 3, j, none⟩) (by show g ≤ g + 3; omega) _⟩
  have both : ∀ {Ai : Option Addr} {zs : List Int}, RdX w6 (g + 1) .u8 Ai zs → RdX w6 (g + 3) .u8 Ai zs → RdX (W.setCell ⟨g + 3, j, none⟩ (.int .i64 (j : Int))) (g + 1) .u8 Ai zs ∧ RdX (W.setCell ⟨g + 3, j, none⟩ (.int .i64 (j : Int))) (g + 3) .u8 Ai zs := fun r1 r3 =>
    have s1 := r1.only o1
    have s3 := r3.other r1 o1
    ⟨s1.other s3 o2, s3.only o2⟩
  by_cases e : i = j
  · subst e
    rw [ha] at ha'
    cases ha'
    obtain ⟨A1, c1, e1, _, _, x1⟩ := ho.rdx (g := g + 1) (by omega)
    obtain ⟨A3, c3, e3, _, _, x3⟩ := ho.rdx (g := g + 3) (by omega)
    injection e1 with e1 _ _
    injection e3 with e3 _ _
    subst e1 e3
    refine ⟨Av, cv, ?_, both x1 x3⟩
    rw [Array.getElem?_setIfInBounds]
    simp [h1, hj]
  · obtain ⟨Ai, ci, q1, q2, q3⟩ := h3 i a' (by omega) ha'
    refine ⟨Ai, ci, ?_, both q2 q3⟩
    rw [Array.getElem?_setIfInBounds, if_neg (fun h => e h.symm)]
    exact q1
end Go.Proofs.YtgbbgdjdomkohaaGreat

/- The frame of every law's proof: what is left is that the call returns true and turns nothing that was there. -/
namespace Go.Proofs.YtgbbgdjdomkohaaGreat
open Go.ChangeShapes Go.WideShapes Go.ChangeAt Go.RowKit

section
variable {H : Type} {enc : TypeId × Value → H} {P : Program} {W W' : World}
/-- Arguments read as they did where below the heap's old size nothing has turned. -/
theorem args_stay (hl : laidOutB P = true) (hb : Below W.heap.size W W') : ∀ (ts : List TypeId) (vs : List Value) (ds : List (DataW H)) (ps : List MemPlace),
    (ts.all fun t => P.readableRec t && decide (t < P.types.size)) = true → (∀ p ∈ ps, p.block < W.heap.size) →
    DataW.TrodAll enc P W 0 (fun _ => true) true ts vs ds ps → DataW.TrodAll enc P W' 0 (fun b => decide (b < W.heap.size)) true ts vs ds ps
  | [], vs, ds, ps, _, _, h => by
    obtain ⟨rfl, rfl, rfl⟩ := trodAll_nil h
    exact trodAll_mk0
  | t :: ts, vs, ds, ps, ht, hp, h => by
    obtain ⟨v, vs', d, ds', p, q, rfl, rfl, rfl, hd, hr⟩ := trodAll_cons h
    simp only [List.all_cons, Bool.and_eq_true, decide_eq_true_eq] at ht
    have ha := Below.trod hl ht.1.1 ht.1.2 hd hb (fun x hx => hp x (List.mem_append_left _ hx))
    exact trodAll_cons_mk ha (args_stay hl hb ts vs' ds' q (by simpa using ht.2) (fun x hx => hp x (List.mem_append_right _ hx)) hr)

/-- What a law's row asks behind the call. -/
theorem law_post {f : Func} {s : ChangeSpec} {args : Array Value} {ds gs : List (DataW H)} {before : List MemPlace} {tb : TypeId}
    (hl : laidOutB P = true) (ht : (f.params.toList.all fun t => P.readableRec t && decide (t < P.types.size)) = true) (hv : s.vars = [])
    (hr : f.resultTypes = #[tb]) (hu : P.underlying tb = some .bool)
    (hres : (s.fn H (ds ++ gs)).results = [.lit (.bool true)]) (hargs : (s.fn H (ds ++ gs)).args = ds) (hvars : (s.fn H (ds ++ gs)).vars = [])
    (hW : DataW.Whole enc P f.params.toList s.vars false W args.toList ds gs before) (hb : Below W.heap.size W W') :
    s.post enc P f false true false false W args (.bool true) W' := by
  have hlt := hW.lt
  have hW' := hW
  obtain ⟨p, q, hA, hV, hpq, _, _⟩ := hW
  rw [hv] at hV
  obtain ⟨rfl, rfl⟩ := trodVars_none hV
  rw [List.append_nil] at hpq
  subst hpq
  refine ⟨ds, [], before, [], before, [], hW', ?_, ?_, ?_, World.keptBut_mono (fun x hx => ⟨hx, Or.inr (Or.inl hx)⟩) (hb.frame (· ∈ before)), fun h => by cases h⟩
  · rw [hres, hr]
    exact trodAll_mk1 (shut_bool hu true)
  · rw [hargs]
    exact args_stay hl hb _ _ _ _ ht hlt hA
  · rw [hv, hvars]
    rfl

/-- A slice of integers that came in. -/
theorem open_nums {t e : TypeId} {k : IntKind} {b0 : Nat} {v : Value} {d : DataW H} {ps : List MemPlace} (ht : P.underlying t = some (.slice e)) (he : P.underlying e = some (.int k)) (hc : P.cellsOf e = 1)
    (hval : Value.okWide P W .any b0 t v) (hd : DataW.Trod enc P W 0 (fun _ => true) true t v d ps) (hlt : ∀ x ∈ ps, x.block < W.heap.size) :
    ∃ (A : Option Addr) (cap : Nat) (zs : List Int), v = .slice A zs.length cap ∧ zs.length ≤ 9223372036854775807 ∧ Rd W W.heap.size k A zs ∧ ∀ n ∈ zs, (Lit.int k n).wf = true := by
  obtain ⟨a0, len, cap, rfl⟩ := okWide_slice ht hval
  obtain ⟨fuel, hf⟩ := hd
  rcases open_ints ht he hc hf with ⟨hcs, hx⟩ | ⟨a, len', cap', zs, hcs, _, hl, hm, hz, hx, hcell, hwz⟩
  · simp [Value.cells] at hcs
    obtain ⟨rfl, rfl, rfl⟩ := hcs
    exact ⟨none, 0, [], rfl, by decide, fun h => absurd h (by simp), by simp⟩
  · simp [Value.cells] at hcs
    obtain ⟨rfl, rfl, rfl⟩ := hcs
    simp only [Prod.mk.injEq] at hx
    obtain ⟨rfl, rfl⟩ := hx
    simp only [if_true] at hz
    unfold maxLen at hm
    have hlen : (zs.take len).length = len := by rw [List.length_take]; omega
    refine ⟨some a, cap, zs.take len, by rw [hlen], by rw [hlen]; omega, fun hpos => ?_, fun n hn => hwz n (List.mem_of_mem_take hn)⟩
    rw [hlen] at hpos
    have h0 := hcell 0 (by omega)
    obtain ⟨b, off, spot⟩ := a
    have hspot : spot = none := by simpa [Addr.add] using World.cell?_spot h0
    subst hspot
    refine ⟨b, off, rfl, ?_, fun i hi => ?_⟩
    · have := hlt (.cell b off) (MemPlace.mem_row.2 ⟨0, by omega, by simp⟩)
      exact this
    · rw [hlen] at hi
      rw [← add_plain, hcell i (by omega)]
      congr 2
      simp [List.getD_eq_getElem?_getD, hi]
/-- A slice of integers that came in; its capacity too. -/
theorem open_nums' {t e : TypeId} {k : IntKind} {b0 : Nat} {v : Value} {d : DataW H} {ps : List MemPlace} (ht : P.underlying t = some (.slice e)) (he : P.underlying e = some (.int k)) (hc : P.cellsOf e = 1)
    (hval : Value.okWide P W .any b0 t v) (hd : DataW.Trod enc P W 0 (fun _ => true) true t v d ps) (hlt : ∀ x ∈ ps, x.block < W.heap.size) :
    ∃ (A : Option Addr) (cap : Nat) (zs : List Int), v = .slice A zs.length cap ∧ zs.length ≤ 9223372036854775807 ∧ zs.length ≤ cap ∧ (A = none → cap = 0) ∧ Rd W W.heap.size k A zs ∧ ∀ n ∈ zs, (Lit.int k n).wf = true := by
  obtain ⟨a0, len, cap, rfl⟩ := okWide_slice ht hval
  obtain ⟨fuel, hf⟩ := hd
  rcases open_ints ht he hc hf with ⟨hcs, hx⟩ | ⟨a, len', cap', zs, hcs, _, hl, hm, hz, hx, hcell, hwz⟩
  · simp [Value.cells] at hcs
    obtain ⟨rfl, rfl, rfl⟩ := hcs
    exact ⟨none, 0, [], rfl, by decide, by decide, fun _ => rfl, fun h => absurd h (by simp), by simp⟩
  · simp [Value.cells] at hcs
    obtain ⟨rfl, rfl, rfl⟩ := hcs
    simp only [Prod.mk.injEq] at hx
    obtain ⟨rfl, rfl⟩ := hx
    simp only [if_true] at hz
    unfold maxLen at hm
    have hlen : (zs.take len).length = len := by rw [List.length_take]; omega
    refine ⟨some a, cap, zs.take len, by rw [hlen], by rw [hlen]; omega, by rw [hlen]; exact hl, fun h => (by cases h), fun hpos => ?_, fun n hn => hwz n (List.mem_of_mem_take hn)⟩
    rw [hlen] at hpos
    have h0 := hcell 0 (by omega)
    obtain ⟨b, off, spot⟩ := a
    have hspot : spot = none := by simpa [Addr.add] using World.cell?_spot h0
    subst hspot
    refine ⟨b, off, rfl, ?_, fun i hi => ?_⟩
    · have := hlt (.cell b off) (MemPlace.mem_row.2 ⟨0, by omega, by simp⟩)
      exact this
    · rw [hlen] at hi
      rw [← add_plain, hcell i (by omega)]
      congr 2
      simp [List.getD_eq_getElem?_getD, hi]
end
end Go.Proofs.YtgbbgdjdomkohaaGreat
