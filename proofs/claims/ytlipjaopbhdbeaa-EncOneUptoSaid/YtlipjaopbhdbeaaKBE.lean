/- Package enc: the numbers of pairs, sorted. -/
import Derived.Test.YtlipjaopbhdbeaaKBD
import Derived.Shelf.SlSortCmp.Whole1
import Derived.Shelf.SlSortCmp.NoneTotal
namespace Go.Proofs.Ytlipjaopbhdbeaa
open Go.RowKit Go.Sort

/-- A pair's number. -/
structure PN (l : List It) where
  i : Nat
  a : It
  b : It
  hi : i < l.length / 2
  ha : l[2 * i]? = some a
  hb : l[2 * i + 1]? = some b
def pnEnc {l : List It} (x : PN l) : Value := .int .i64 (x.i : Int)
noncomputable def pnCmp {l : List It} (x y : PN l) : Int := pcmp (x.a, x.b) (y.a, y.b)
theorem swo_pn {l : List It} : SWO (Go.Proofs.ltOf (pnCmp (l := l))) where
  irrefl x := by unfold Go.Proofs.ltOf pnCmp; rw [pcmp_cmp.refl]; rfl
  trans x y z h1 h2 := by
    unfold Go.Proofs.ltOf pnCmp at *
    simp only [decide_eq_true_eq] at *
    exact pcmp_cmp.tr _ _ _ h1 h2
  ntrans x y z h1 h2 := by
    unfold Go.Proofs.ltOf pnCmp at *
    simp only [decide_eq_false_iff_not, Int.not_lt] at *
    have a1 := pcmp_cmp.anti (x.a, x.b) (y.a, y.b)
    have a2 := pcmp_cmp.anti (y.a, y.b) (z.a, z.b)
    have a3 := pcmp_cmp.anti (x.a, x.b) (z.a, z.b)
    have := pcmp_cmp.le_trans (x := (z.a, z.b)) (y := (y.a, y.b)) (z := (x.a, x.b)) (by omega) (by omega)
    omega
theorem only_sort {α : Type} [Inhabited α] (enc : α → Value) (w : World) (g off m : Nat) (dk : Array α) (os : Array Obj) : Only g w (sortWorld enc w g off m dk os) ∧ w.drawn ≤ (sortWorld enc w g off m dk os).drawn := by
  refine ⟨⟨rfl, rfl, rfl, ?_, fun b hl hne => ?_⟩, Nat.le_add_right _ _⟩
  · simp [sortWorld, putRow, mapBlock, Sort.ahead, Sort.grow]
  · simp only [sortWorld, putRow, mapBlock, Sort.ahead, Sort.grow]
    have hb : b ≠ g := fun e => hne (by rw [e])
    rw [Array.getElem?_append_left (by rw [Array.size_modify]; exact hl), Array.getElem?_modify, if_neg (fun e => hb e.symm)]
theorem cmp_pn {W : World} {p gk gi K cap size : Nat} {A : Option Addr} {l : List It} [Inhabited (PN l)] (ck : Ck W p gk gi K A cap l) (hok : okEL l) (hbk : bulkL l ≤ 1099511627776) :
    CmpLays1 Try.prog 43 #[.pointer (some ⟨gk, 0, none⟩), .pointer (some ⟨gi, 0, none⟩)] pnEnc (pnCmp (l := l)) p 0 size W := by
  intro m os dk _ x y
  have ho := only_sort pnEnc W p 0 m dk os
  have C := rising_cmp (ck.only ho.1) hok hbk x.hi y.hi x.ha x.hb y.ha y.hb
  exact (calls_bel C).mono fun _ _ h => ⟨h.1, h.2.grow⟩
/-- The numbers from 0 on, by pairs. -/
theorem pn_list (l : List It) : ∃ d : List (PN l), d.length = l.length / 2 ∧ (d.map fun x => (x.a, x.b)) = pairsOf l ∧ ∀ (i : Nat) (x : PN l), d[i]? = some x → x.i = i := by
  have key : ∀ k, k ≤ l.length / 2 → ∃ d : List (PN l), d.length = k ∧ (d.map fun x => (x.a, x.b)) = (pairsOf l).take k ∧ ∀ (i : Nat) (x : PN l), d[i]? = some x → x.i = i := by
    intro k
    induction k with
    | zero => intro _; exact ⟨[], rfl, rfl, fun i x h => by simp at h⟩
    | succ k ih =>
      intro hk
      obtain ⟨d, h1, h2, h3⟩ := ih (by omega)
      obtain ⟨a, b, ha, hb, hp⟩ := pairs_get l k (by rw [length_pairs]; omega)
      refine ⟨d ++ [⟨k, a, b, by omega, ha, hb⟩], by simp [h1], ?_, fun i x hx => ?_⟩
      · rw [List.map_append, h2, List.take_add_one, hp]
        rfl
      · rcases Nat.lt_or_ge i d.length with h | h
        · rw [List.getElem?_append_left h] at hx
          exact h3 i x hx
        · rw [List.getElem?_append_right h] at hx
          have : i - d.length = 0 := by
            rcases Nat.eq_zero_or_pos (i - d.length) with h | h
            · exact h
            · rw [List.getElem?_eq_none (by simp; omega)] at hx; cases hx
          rw [this] at hx
          have hx : (⟨k, a, b, by omega, ha, hb⟩ : PN l) = x := by simpa using hx
          rw [← hx]
          show k = i
          omega
  obtain ⟨d, h1, h2, h3⟩ := key _ (Nat.le_refl _)
  refine ⟨d, h1, ?_, h3⟩
  rw [h2, ← length_pairs, List.take_length]
/-- slices.SortFunc over the numbers of pairs. -/
theorem sort_pairs {W : World} {p gk gi K cap : Nat} {A : Option Addr} {l : List It} (ck : Ck W p gk gi K A cap l) (hok : okEL l) (hbk : bulkL l ≤ 1099511627776) (hpos : 0 < l.length / 2) {n : Nat} (hn : l.length / 2 = n)
    (hp : Blk W p 3 (nums .i64 ((List.range n).map fun i : Nat => (i : Int)))) :
    Calls Try.prog 42 #[.slice (some ⟨p, 0, none⟩) n n, .func (.func 43) #[] #[.pointer (some ⟨gk, 0, none⟩), .pointer (some ⟨gi, 0, none⟩)]] W fun e w' =>
      e = .returned (.tuple #[]) ∧ ∃ d : List (PN l), d.length = n ∧ flatP (d.map fun x => (x.a, x.b)) = risen l ∧ (∀ (i : Nat) (x : PN l), d[i]? = some x → w'.cell? ⟨p, i, none⟩ = some (.int .i64 (x.i : Int))) ∧ Only p W w' := by
  obtain ⟨d, h1, h2, h3⟩ := pn_list l
  have hd0 : 0 < d.length := by omega
  haveI : Inhabited (PN l) := ⟨d[0]⟩
  have hcell : ∀ i : Nat, i < n → W.cell? ⟨p, i, none⟩ = some (.int .i64 (i : Int)) := fun i hi => by
    rw [hp.cell]
    unfold nums
    simp [hi]
  have hH : Holds pnEnc W p 0 d.toArray := by
    intro j hj
    rw [List.size_toArray] at hj
    refine ⟨?_, hp.free _⟩
    rw [Nat.zero_add, hcell j (by omega)]
    have : d.toArray[j]! = d[j] := by rw [getElem!_pos d.toArray j (by simpa using hj)]; rfl
    rw [this]
    show _ = some (Value.int .i64 ((d[j]).i : Int))
    rw [h3 j d[j] (List.getElem?_eq_getElem hj)]
  have eg : ∀ args w, (callFunc 43 args).run Try.prog w = .ok (.enter 43 args) w := enters_of Try.func43 (by kernel_rfl) rfl
  have hml := bulk_length l
  have hcon := Go.Proofs.Any.slices_SortFunc Try.sortInts pnEnc (fun _ => rfl) pnCmp swo_pn 43 #[.pointer (some ⟨gk, 0, none⟩), .pointer (some ⟨gi, 0, none⟩)] p 0 n d.toArray W eg (cmp_pn ck hok hbk) hH hp.lt (by rw [List.size_toArray]; omega)
  rw [show n = d.toArray.size by rw [List.size_toArray]; omega]
  rw [show n = d.toArray.size by rw [List.size_toArray]; omega] at hcon
  refine Calls.mono hcon ?_
  rintro e w' ⟨rfl, d', m, os, ⟨hs, _, hpm⟩, hsrt, rfl⟩
  have hpm' : d'.toList.Perm d := by
    have e3 : d'.extract 0 d.toArray.size = d' := by rw [← hs]; exact Array.extract_size
    have e4 : d.toArray.extract 0 d.toArray.size = d.toArray := Array.extract_size
    rw [e3, e4] at hpm
    simpa using hpm
  refine ⟨rfl, d'.toList, by rw [Array.length_toList, hs], ?_, fun i x hx => ?_, (only_sort pnEnc W p 0 m d' os).1⟩
  · refine risen_of hok (by rw [← h2]; exact hpm'.map _) fun i j hi hj => ?_
    rw [List.length_map, Array.length_toList] at hj
    have := hsrt i j (Nat.zero_le _) hi (by rw [← hs]; exact hj)
    rw [getElem!_pos d' j hj, getElem!_pos d' i (by omega)] at this
    have := of_decide_eq_false this
    simp only [pnCmp] at this
    simp only [List.getElem_map, Array.getElem_toList]
    omega
  · have hh := holds_sortWorld pnEnc W p 0 m d.toArray d' os hp.lt hH hs
    have hlt : i < d'.size := by
      rcases Nat.lt_or_ge i d'.toList.length with h | h
      · rwa [Array.length_toList] at h
      · rw [List.getElem?_eq_none h] at hx; cases hx
    have h5 := (hh i hlt).1
    rw [Nat.zero_add] at h5
    rw [h5]
    have h6 : d'[i]! = x := by
      rw [getElem!_pos d' i hlt]
      have : d'.toList[i]? = some x := hx
      rw [Array.getElem?_toList, Array.getElem?_eq_getElem hlt] at this
      injection this
    rw [h6]
    rfl
end Go.Proofs.Ytlipjaopbhdbeaa

/- Package enc: rising. -/
namespace Go.Proofs.Ytlipjaopbhdbeaa
open Go.RowKit Go.Sort

theorem keysInfo : (Try.prog.info? 28).map (fun i => (i.zero, i.size, i.bytes)) = some (some (.slice none 0 0), 1, 24) := by kernel_rfl
theorem intsInfo : (Try.prog.info? 3).map (fun i => (i.zero, i.size, i.bytes)) = some (some (.int .i64 0), 1, 8) := by kernel_rfl
theorem made_one (z : Value) (n : Nat) : madeCells #[z] n = Array.replicate n z := by
  apply Array.ext
  · simp [size_madeCells]
  · intro i h1 h2
    simp [madeCells, Nat.mod_one]
theorem make_keys (n : Nat) (hn : n ≤ 1099511627776) (W : World) : (Instr.makeSlice 70 (.int .i64 (n : Int)) (.int .i64 (n : Int))).run Try.prog W = .ok (.slice (some ⟨W.heap.size, 0, none⟩) n n) (W.alloc (.cells (Array.replicate n (.slice none 0 0)) 28)) := by
  obtain ⟨i0, hi, hz0, hz1, hz2⟩ := info_parts keysInfo
  have h := run_make (P := Try.prog) W 70 28 i0 _ (by kernel_rfl) hi hz0 .i64 .i64 (n : Int) (n : Int) (by omega) (by omega) (by rw [hz2]; omega) (by omega)
  rw [Int.toNat_natCast, hz1, Nat.mul_one, show (Value.slice none 0 0).cells = #[.slice none 0 0] from rfl, made_one] at h
  exact h
theorem make_ints (n : Nat) (hn : n ≤ 1099511627776) (W : World) : (Instr.makeSlice 50 (.int .i64 (n : Int)) (.int .i64 (n : Int))).run Try.prog W = .ok (.slice (some ⟨W.heap.size, 0, none⟩) n n) (W.alloc (.cells (Array.replicate n (.int .i64 0)) 3)) := by
  obtain ⟨i0, hi, hz0, hz1, hz2⟩ := info_parts intsInfo
  have h := run_make (P := Try.prog) W 50 3 i0 _ (by kernel_rfl) hi hz0 .i64 .i64 (n : Int) (n : Int) (by omega) (by omega) (by rw [hz2]; omega) (by omega)
  rw [Int.toNat_natCast, hz1, Nat.mul_one, show (Value.int .i64 0).cells = #[.int .i64 0] from rfl, made_one] at h
  exact h
/-- The numbers of the first j pairs. -/
def ints (j n : Nat) : Array Value := (Array.range n).map fun i => .int .i64 (if i < j then (i : Int) else 0)
theorem size_ints (j n : Nat) : (ints j n).size = n := by simp [ints]
theorem ints_zero (n : Nat) : Array.replicate n (Value.int .i64 0) = ints 0 n := by
  apply Array.ext
  · simp [ints]
  · intro i h1 h2; simp [ints]
theorem ints_set {j n : Nat} (_hj : j < n) : (ints j n).setIfInBounds j (.int .i64 (j : Int)) = ints (j + 1) n := by
  apply Array.ext
  · simp [ints]
  · intro i h1 h2
    rw [Array.getElem_setIfInBounds (by simpa using h1)]
    simp only [ints, Array.getElem_map, Array.getElem_range]
    by_cases e : j = i
    · subst e; simp
    · rw [if_neg e]
      congr 1
      by_cases h : i < j
      · rw [if_pos h, if_pos (by omega)]
      · rw [if_neg h, if_neg (by omega)]
theorem ints_all (n : Nat) : ints n n = nums .i64 ((List.range n).map fun i : Nat => (i : Int)) := by
  apply Array.ext
  · simp [ints, nums]
  · intro i h1 h2
    have : i < n := by simpa [ints] using h1
    simp [ints, nums, this]
/-- rising's memory, the first j keys laid. -/
structure RS (w0 wr : World) (g : Nat) (A : Option Addr) (cap : Nat) (l : List It) (n j : Nat) : Prop where
  bi : Blk wr g 23 #[.slice A l.length cap]
  bk : Blk wr (g + 2) 70 #[.slice (some ⟨g + 1, 0, none⟩) n n]
  bp : Blk wr (g + 3) 3 (ints j n)
  kb : ∃ kv : Array Value, kv.size = n ∧ Blk wr (g + 1) 28 kv ∧ ∀ (i : Nat) (a : It), i < j → l[2 * i]? = some a → ∃ Ai ci, kv[i]? = some (.slice Ai a.enc.length ci) ∧ RdX wr (g + 1) .u8 Ai a.enc ∧ RdX wr (g + 3) .u8 Ai a.enc
  low : Below g w0 wr
theorem RS.on {w0 wr W : World} {g : Nat} {A : Option Addr} {cap : Nat} {l : List It} {n j : Nat} (h : RS w0 wr g A cap l n j) (hb : Below wr.heap.size wr W) : RS w0 W g A cap l n j := by
  obtain ⟨kv, h1, h2, h3⟩ := h.kb
  refine ⟨h.bi.on hb, h.bk.on hb, h.bp.on hb, ⟨kv, h1, h2.on hb, fun i a hi ha => ?_⟩, h.low.trans (hb.mono (Nat.le_of_lt h.bi.lt))⟩
  obtain ⟨Ai, ci, q1, q2, q3⟩ := h3 i a hi ha
  exact ⟨Ai, ci, q1, q2.below hb, q3.below hb⟩
/-- One more key. -/
theorem RS.step {w0 w6 : World} {g : Nat} {A : Option Addr} {cap : Nat} {l : List It} {n j B : Nat} {Av : Option Addr} {cv : Nat} {a : It} (h : RS w0 w6 g A cap l n j) (hj : j < n) (ha : l[2 * j]? = some a) (ho : Own w6 B .u8 5 (.slice Av a.enc.length cv) a.enc) (hB : g + 4 ≤ B) :
    RS w0 ((w6.setCell ⟨g + 1, j, none⟩ (.slice Av a.enc.length cv)).setCell ⟨g + 3, j, none⟩ (.int .i64 (j : Int))) g A cap l n (j + 1) := by
  obtain ⟨kv, h1, h2, h3⟩ := h.kb
  have o1 : Only (g + 1) w6 (w6.setCell ⟨g + 1, j, none⟩ (.slice Av a.enc.length cv)) := ⟨rfl, rfl, rfl, by simp [World.setCell], fun i _ hne => Below.heap_setCell _ _ _ _ (fun e => hne (by rw [e]))⟩
  obtain ⟨W, hW⟩ : ∃ W, w6.setCell ⟨g + 1, j, none⟩ (.slice Av a.enc.length cv) = W := ⟨_, rfl⟩
  have k1 := h2.put j (.slice Av a.enc.length cv)
  rw [hW] at o1 k1 ⊢
  have o2 : Only (g + 3) W (W.setCell ⟨g + 3, j, none⟩ (.int .i64 (j : Int))) := ⟨rfl, rfl, rfl, by simp [World.setCell], fun i _ hne => Below.heap_setCell _ _ _ _ (fun e => hne (by rw [e]))⟩
  have k2 := (h.bp.only o1 (by omega)).put j (.int .i64 (j : Int))
  rw [ints_set hj] at k2
  have low : Below g w6 W := by rw [← hW]; exact (Below.refl g w6).setCell (p := ⟨g + 1, j, none⟩) (by show g ≤ g + 1; omega) _
  refine ⟨(h.bi.only o1 (by omega)).only o2 (by omega), (h.bk.only o1 (by omega)).only o2 (by omega), k2, ⟨_, by simpa using h1, k1.only o2 (by omega), fun i a' hi ha' => ?_⟩, (h.low.trans low).setCell (p := ⟨g + 3, j, none⟩) (by show g ≤ g + 3; omega) _⟩
  have both : ∀ {Ai : Option Addr} {zs : List Int}, RdX w6 (g + 1) .u8 Ai zs → RdX w6 (g + 3) .u8 Ai zs → RdX (W.setCell ⟨g + 3, j, none⟩ (.int .i64 (j : Int))) (g + 1) .u8 Ai zs ∧ RdX (W.setCell ⟨g + 3, j, none⟩ (.int .i64 (j : Int))) (g + 3) .u8 Ai zs := fun r1 r3 =>
    have s1 := r1.only o1
    have s3 := r3.other r1 o1
    ⟨s1.other s3 o2, s3.only o2⟩
  by_cases e : i = j
  · subst e
    rw [ha] at ha'
    cases ha'
    obtain ⟨A1, c1, e1, _, _, x1⟩ := ho.rdx (g := g + 1) (by omega)
    obtain ⟨A3, c3, e3, _, _, x3⟩ := ho.rdx (g := g + 3) (by omega)
    injection e1 with e1 _ _
    injection e3 with e3 _ _
    subst e1 e3
    refine ⟨Av, cv, ?_, both x1 x3⟩
    rw [Array.getElem?_setIfInBounds]
    simp [h1, hj]
  · obtain ⟨Ai, ci, q1, q2, q3⟩ := h3 i a' (by omega) ha'
    refine ⟨Ai, ci, ?_, both q2 q3⟩
    rw [Array.getElem?_setIfInBounds, if_neg (fun h => e h.symm)]
    exact q1
end Go.Proofs.Ytlipjaopbhdbeaa
