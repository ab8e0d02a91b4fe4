/- The document's wrong, Check. -/
import Derived.Test.YtjelgoeamaejmaaGreatKBF
import Derived.Test.YtjelgoeamaejmaaGreatKBG
import Derived.Test.YtjelgoeamaejmaaGreatKBH
import Derived.Test.YtjelgoeamaejmaaGreatKBC
import Derived.Lib.QuietBelow
import Derived.Deep.OwnRows
import Derived.Test.YtjelgoeamaejmaaGreatKBA
namespace Go.Proofs.YtjelgoeamaejmaaGreat
open Go.RowKit

theorem sref_wrong (xs : List Nd) (A : Option Addr) (cap n i : Nat) (x : Nd) (w : World) (hn : n ≤ w.heap.size) (hx : RdN w n A xs) (hX : xs[i]? = some x) (ho : okN x) (hm : xs.length ≤ 1099511627776) :
    Calls Tryz.prog 24 #[vS A xs cap, .int .i64 (i : Int)] w fun e w' => e = .returned (.int .i64 (wrongN chI x i xs.length)) ∧ Below w.heap.size w w' := by
  by_cases h1 : x.k = 1
  · exact sref_wrong1 xs A cap n i x w hn hx hX ho h1 hm
  by_cases h2 : x.k = 2
  · exact sref_wrong2 xs A cap n i x w hn hx hX ho h2 hm
  by_cases h3 : x.k = 3
  · exact sref_wrong3 xs A cap n i x w hn hx hX ho h3 hm
  by_cases h6 : x.k = 6
  · exact sref_wrong6 xs A cap n i x w hn hx hX ho h6 hm
  by_cases h9 : x.k = 9
  · exact sref_wrong9 xs A cap n i x w hn hx hX ho h9 hm
  exact sref_wrong_o xs A cap n i x w hn hx hX ho ⟨h1, h2, h3, h6, h9⟩ hm

set_option maxRecDepth 100000 in
set_option maxHeartbeats 4000000 in
theorem sref_Check (xs : List Nd) (A : Option Addr) (cap n : Nat) (w : World) (hn : n ≤ w.heap.size) (hx : RdN w n A xs) (ho : ∀ x ∈ xs, okN x) (hm : xs.length ≤ 1099511627776) :
    Calls Tryz.prog 11 #[vS A xs cap] w fun e w' => e = .returned (.tuple #[.int .i64 (checkI chI xs : Nat), .int .i64 (checkE chI xs)]) ∧ Below w.heap.size w w' := by
  obtain ⟨w1, hw1, b1, S⟩ := iblk1 w 24 #[.slice A xs.length cap]
  have HF : Hid (∀ W, Below w.heap.size w W → RdN W n A xs) := Lib.hid fun W hW => hx.keep (hW.mono hn)
  have HOK := Lib.hid ho
  have HN := Lib.hid hn
  have HB := Lib.hid b1
  have HS := Lib.hid S
  have p0 := sblk b1
  have HUP : Hid (∀ W, Below w1.heap.size w1 W → Below w.heap.size w W) := Lib.hid fun W hW => S.trans (hW.mono S.size)
  have HCW : Hid (∀ W, Below w1.heap.size w1 W → ∀ (i : Nat) (x : Nd), xs[i]? = some x → Calls Tryz.prog 24 #[vS A xs cap, .int .i64 (i : Int)] W fun e w' => e = .returned (.int .i64 (wrongN chI x i xs.length)) ∧ Below w1.heap.size w1 w') := Lib.hid fun W hW i x hX =>
    (sref_wrong xs A cap n i x W (Nat.le_trans hn (S.trans (hW.mono S.size)).size) (hx.keep ((S.trans (hW.mono S.size)).mono hn)) hX (ho x (List.mem_of_getElem? hX)) hm).mono fun e w' h => ⟨h.1, hW.trans (h.2.mono hW.size)⟩
  obtain ⟨m, hml⟩ : ∃ m, xs.length = m := ⟨_, rfl⟩
  have HM := Lib.hid hml
  unfold vS at HCW
  rw [hml] at p0 hw1 hm HB HCW
  unfold vS
  rw [hml]
  clear b1 S hx hn ho hml
  obtain ⟨ri, hri⟩ : ∃ ri : Int, ((checkI chI xs : Nat) : Int) = ri := ⟨_, rfl⟩
  obtain ⟨re, hre⟩ : ∃ re, checkE chI xs = re := ⟨_, rfl⟩
  rw [hri, hre]
  have HSET : Hid (∀ a b, checkE chI xs = a ∧ checkI chI xs = b → re = a ∧ ri = (b : Int)) := Lib.hid fun a b h => ⟨hre.symm.trans h.1, hri.symm.trans (by rw [h.2])⟩
  clear hri hre
  go_enter Tryz.func11, Tryz.ntmps11
  by_cases hb : m < 1 ∨ 256 < m
  · obtain ⟨rfl, rfl⟩ := HSET.out _ _ (checkE_bad (ch := chI) (by rw [HM.out]; exact hb))
    rcases hb with hb | hb
    · have e1 : (m : Int) < 1 := by omega
      clear hb
      go_wp2_with fail
      go_ret2
      exact ⟨rfl, HS.out⟩
    · have e1 : ¬ (m : Int) < 1 := by omega
      have e2 : (256 : Int) < m := by omega
      clear hb
      go_wp2_with fail
      go_ret2
      exact ⟨rfl, HS.out⟩
  have e1 : ¬ (m : Int) < 1 := by omega
  have e2 : ¬ (256 : Int) < m := by omega
  have HBAD : Hid (¬ (xs.length < 1 ∨ 256 < xs.length)) := Lib.hid (by rw [HM.out]; exact hb)
  clear hb
  go_wp2_with fail
  clear e1 e2
  go_loopw [4] (fun i wr => ∃ k : Nat, k ≤ m ∧ i = .int .i64 (k : Int) ∧ Hid (Below w1.heap.size w1 wr) ∧ Hid (∀ j, j < k → errN chI xs j = 0)) (fun i _ => m - (intOf i).toNat)
  case atStart => exact ⟨0, by omega, rfl, Lib.hid (Below.refl _ _), Lib.hid fun j hj => absurd hj (by omega)⟩
  case round =>
    obtain ⟨k, hk, rfl, HBr, HE⟩ := hrel
    have s0 := sblk (HB.out.on HBr.out)
    by_cases hlt : k < m
    · obtain ⟨x, hX⟩ : ∃ x, xs[k]? = some x := ⟨_, List.getElem?_eq_getElem (by rw [HM.out]; exact hlt)⟩
      have HX := Lib.hid hX
      have HCH := Lib.hid (HCW.out wr HBr.out k x hX)
      clear hX
      obtain ⟨r, hr⟩ : ∃ r, wrongN chI x k m = r := ⟨_, rfl⟩
      rw [hr] at HCH
      have HR := Lib.hid hr
      clear hr
      by_cases h0 : r = 0
      · subst h0
        have HNX : Hid (errN chI xs k = 0) := Lib.hid (by rw [errN_some HX.out, HM.out]; exact HR.out)
        go_wp2_with (first
          | (go_at_call 24; refine HCH.out.mono ?_; rintro e w4 ⟨rfl, hb4⟩; have HB4 := Lib.hid hb4; clear hb4)
          | fail)
        go_roundw
        case rel => exact ⟨k + 1, by omega, by simp, HB4, Lib.hid fun j hj => by
          by_cases e : j = k
          · rw [e]; exact HNX.out
          · exact HE.out j (by omega)⟩
        case measure => simp [intOf]; omega
      · obtain ⟨rfl, rfl⟩ := HSET.out _ _ (by have := checkE_at (ch := chI) HBAD.out HE.out HX.out (by rw [HM.out, HR.out]; exact h0); rw [HM.out, HR.out] at this; exact this)
        have e3 : (re != 0) = true := by simp [h0]
        clear h0
        go_wp2_with (first
          | (go_at_call 24; refine HCH.out.mono ?_; rintro e w4 ⟨rfl, hb4⟩; have HB4 := Lib.hid hb4; clear hb4)
          | fail)
        go_ret2
        exact ⟨rfl, HUP.out _ HB4.out⟩
    · obtain rfl : k = m := by omega
      obtain ⟨rfl, rfl⟩ := HSET.out _ _ (checkE_all (ch := chI) HBAD.out (by rw [HM.out]; exact HE.out))
      go_wp2_with fail
      go_ret2
      exact ⟨rfl, HUP.out _ HBr.out⟩
end Go.Proofs.YtjelgoeamaejmaaGreat

/- Who leads to whom: the document's Leads; lists of numbers held against each other. -/
namespace Go.Proofs.YtjelgoeamaejmaaGreat
open Go.RowKit Go.Sort

set_option maxRecDepth 100000 in
set_option maxHeartbeats 1000000 in
theorem ref_Ints (xs ys : List Int) (A B : Option Addr) (ca cb n : Nat) (w : World) (hn : n ≤ w.heap.size) (hx : Rd w n .i64 A xs) (hy : Rd w n .i64 B ys) (hm : xs.length ≤ 1099511627776) :
    Calls Tryz.prog 14 #[.slice A xs.length ca, .slice B ys.length cb] w fun e w' => e = .returned (.bool (sameL xs ys)) ∧ Below w.heap.size w w' := by
  by_cases hl : xs.length = ys.length
  · have HL := Lib.hid hl
    obtain ⟨m, hmm⟩ : ∃ m, xs.length = m := ⟨_, rfl⟩
    rw [← hl, hmm]
    rw [hmm] at hm
    have HM := Lib.hid hmm
    have HX : Hid (∀ w', Below w.heap.size w w' → Rd w' n .i64 A xs) := Lib.hid fun w' hb => hx.below (hb.mono hn)
    have HY : Hid (∀ w', Below w.heap.size w w' → Rd w' n .i64 B ys) := Lib.hid fun w' hb => hy.below (hb.mono hn)
    clear hl hmm hx hy
    go_enter Tryz.func14, Tryz.ntmps14
    go_wp2_with fail
    go_loopw [5] (fun i wr => ∃ k : Nat, k ≤ m ∧ i = .int .i64 (k : Int) ∧ Hid (Below w.heap.size w wr) ∧ Hid (∀ j, j < k → xs[j]? = ys[j]?)) (fun i _ => m - (intOf i).toNat)
    case atStart => exact ⟨0, by omega, rfl, Lib.hid (Below.refl _ _), Lib.hid fun j hj => absurd hj (by omega)⟩
    case round =>
      obtain ⟨k, hk, rfl, HB, HE⟩ := hrel
      by_cases hlt : k < m
      · obtain ⟨b1, o1, x, rfl, -, X, c1⟩ := (HX.out wr HB.out).get' (i := k) (by rw [HM.out]; exact hlt)
        obtain ⟨b2, o2, y, rfl, -, Y, c2⟩ := (HY.out wr HB.out).get' (i := k) (by rw [← HL.out, HM.out]; exact hlt)
        have HXK := Lib.hid X
        have HYK := Lib.hid Y
        clear X Y
        skip
        by_cases e : x = y
        · have HEE := Lib.hid e
          subst e
          go_wp2_with fail
          go_quiet (fail)
          have HQ := Lib.hid (below_drewN (Below.refl wr.heap.size wr) nq)
          generalize wr.drewN nq = w2 at *
          go_wp2_with fail
          go_roundw
          case rel => exact ⟨k + 1, by omega, by simp, Lib.hid (HB.out.trans (HQ.out.mono HB.out.size)), Lib.hid fun j hj => by
            by_cases e : j = k
            · subst e; rw [HXK.out, HYK.out]
            · exact HE.out j (by omega)⟩
          case measure => simp [intOf]; omega
        · have HF : Hid (sameL xs ys = false) := Lib.hid (sameL_false.2 (list_ne_at (k := k) (by rw [HXK.out, HYK.out]; exact fun h => e (by injection h))))
          have e1 : (x != y) = true := by simp [e]
          go_wp2_with fail
          go_quiet (fail)
          have HQ := Lib.hid (below_drewN (Below.refl wr.heap.size wr) nq)
          generalize wr.drewN nq = w2 at *
          go_wp2_with fail
          go_ret
          exact ⟨by rw [HF.out]; rfl, HB.out.trans (HQ.out.mono HB.out.size)⟩
      · obtain rfl : k = m := by omega
        have HF : Hid (sameL xs ys = true) := Lib.hid (sameL_true.2 (list_eq_upto HL.out (by rw [HM.out]; exact HE.out)))
        go_wp2_with fail
        go_ret
        exact ⟨by rw [HF.out]; rfl, HB.out⟩
  · have HF : Hid (sameL xs ys = false) := Lib.hid (sameL_false.2 fun e => hl (by rw [e]))
    have hne : ((xs.length : Int) != ys.length) = true := by simp; omega
    go_enter Tryz.func14, Tryz.ntmps14
    go_wp2_with fail
    go_ret
    exact ⟨by rw [HF.out]; rfl, Below.refl _ _⟩


end Go.Proofs.YtjelgoeamaejmaaGreat

/- Package schema: Leads. -/
namespace Go.Proofs.YtjelgoeamaejmaaGreat
open Go.RowKit Go.Sort

/-- A table of answers. -/
def bls (bs : List Bool) : Array Value := (bs.map Value.bool).toArray
theorem bls_get (bs : List Bool) (i : Nat) (hi : i < bs.length) : (bls bs)[i]? = some (.bool (bs.getD i false)) := by
  simp [bls, hi, List.getD_eq_getElem?_getD]
theorem bls_put (bs : List Bool) (i : Nat) (u : Bool) : (bls bs).setIfInBounds i (.bool u) = bls (bs.set i u) := by
  apply Array.ext'
  simp [bls, List.map_set]
theorem bls_made (n : Nat) : madeCells #[Value.bool false] n = bls (List.replicate n false) := by
  apply Array.ext
  · simp [size_madeCells, bls]
  · intro i h1 h2
    simp [madeCells, bls, Nat.mod_one]
theorem infoBool : (Tryz.prog.info? 4).map (fun i => (i.zero, i.size, i.bytes)) = some (some (.bool false), 1, 1) := by kernel_rfl
/-- The table when the first k nodes have been looked at. -/
def Tab (xs : List Nd) (a k m : Nat) (bs : List Bool) : Prop := bs.length = m ∧ ∀ j, j < m → (bs.getD j false = true ↔ Led xs a k j)
theorem getD_set (bs : List Bool) (i j : Nat) (u : Bool) (hi : i < bs.length) : (bs.set i u).getD j false = if i = j then u else bs.getD j false := by
  rw [List.getD_eq_getElem?_getD, List.getD_eq_getElem?_getD, List.getElem?_set]
  split
  · rename_i e; subst e; simp
  · rfl
theorem Tab.start {xs : List Nd} (hw : Wf xs) {a m : Nat} (ha : a < m) : Tab xs a a m ((List.replicate m false).set a true) := by
  refine ⟨by simp, fun j hj => ?_⟩
  rw [getD_set _ _ _ _ (by simpa using ha), led_start hw]
  split
  · rename_i e; simp [e]
  · rename_i e
    simp [List.getD_eq_getElem?_getD, hj]
    omega
theorem Tab.no {xs : List Nd} {a k m : Nat} {bs : List Bool} (h : Tab xs a k m bs) (hl : ¬ Ld xs a k) : Tab xs a (k + 1) m bs := ⟨h.1, fun j hj => (h.2 j hj).trans (led_no hl).symm⟩
/-- .. and of the next node's names the first q. -/
def TabQ (xs : List Nd) (a k m q : Nat) (L : List Int) (bs : List Bool) : Prop := bs.length = m ∧ ∀ j : Nat, j < m → (bs.getD j false = true ↔ Led xs a k j ∨ (j : Int) ∈ L.take q)
theorem TabQ.start {xs : List Nd} {a k m : Nat} {L : List Int} {bs : List Bool} (h : Tab xs a k m bs) : TabQ xs a k m 0 L bs := ⟨h.1, fun j hj => by simpa using h.2 j hj⟩
theorem TabQ.step {xs : List Nd} {a k m q : Nat} {L : List Int} {bs : List Bool} {t : Nat} (h : TabQ xs a k m q L bs) (ht : L[q]? = some (t : Int)) (hm : t < m) : TabQ xs a k m (q + 1) L (bs.set t true) := by
  obtain ⟨hq, he⟩ := List.getElem?_eq_some_iff.1 ht
  refine ⟨by simpa using h.1, fun j hj => ?_⟩
  rw [getD_set _ _ _ _ (by rw [h.1]; exact hm), List.take_succ_eq_append_getElem hq, he, List.mem_append, List.mem_singleton, ← or_assoc, ← h.2 j hj]
  split
  · rename_i e; simp [e]
  · rename_i e
    constructor
    · exact .inl
    · rintro (h | h)
      · exact h
      · omega
theorem TabQ.done {xs : List Nd} {a k m : Nat} {x : Nd} {bs : List Bool} (h : TabQ xs a k m (namedN x).length (namedN x) bs) (hl : Ld xs a k) (hx : xs[k]? = some x) : Tab xs a (k + 1) m bs :=
  ⟨h.1, fun j hj => by rw [h.2 j hj, List.take_length, led_yes hl hx]⟩

/-- What Leads tells. -/
noncomputable def leadsL (xs : List Nd) (a : Int) : List Int := if a < 0 ∨ (xs.length : Int) ≤ a then [] else ldL xs a.toNat xs.length
end Go.Proofs.YtjelgoeamaejmaaGreat

/- Package denote: teller: a table of which node stands for which part, and the function that reads it. -/
namespace Go.Proofs.YtjelgoeamaejmaaGreat
open Go.RowKit

/-! ### A row of answers, the first a of them worked out -/
def rowB (m a : Nat) (f : Nat → Bool) : List Bool := (List.range m).map fun j => if j < a then f j else false
theorem rowB_len (m a : Nat) (f : Nat → Bool) : (rowB m a f).length = m := by simp [rowB]
theorem rowB_zero (m : Nat) (f : Nat → Bool) : rowB m 0 f = List.replicate m false := by
  apply List.ext_getElem
  · simp [rowB]
  · intro i h1 h2
    simp [rowB]
theorem rowB_set {m a : Nat} (f : Nat → Bool) (ha : a < m) : (rowB m a f).set a (f a) = rowB m (a + 1) f := by
  apply List.ext_getElem
  · simp [rowB]
  · intro i h1 h2
    rw [List.getElem_set]
    simp only [rowB, List.getElem_map, List.getElem_range]
    split
    · subst_vars
      rw [if_pos (by omega)]
    · by_cases h : i < a
      · rw [if_pos h, if_pos (by omega)]
      · rw [if_neg h, if_neg (by omega)]
theorem rowB_at {m a j : Nat} (f : Nat → Bool) (hj : j < m) : (bls (rowB m a f))[j]? = some (.bool (if j < a then f j else false)) := by
  rw [bls_get _ _ (by rw [rowB_len]; exact hj), List.getD_eq_getElem?_getD]
  simp [rowB, hj]
theorem blk_far {w : World} {a b : Nat} {s t : TypeId} {cs ds : Array Value} (h : Blk w a s cs) (h' : Blk w b t ds) (ht : s ≠ t) : a ≠ b := fun e => by
  subst e
  have := h.symm.trans h'
  injection this with this
  injection this with _ h2
  exact ht h2
/-- The table: block cm holds it, block g its rows from lo on. -/
structure Tbl (w : World) (B H cm g n m lo : Nat) (R : Nat → Nat → Bool) : Prop where
  c : Blk w cm 66 #[.slice (some ⟨g, 0, none⟩) n n]
  cb : B ≤ cm ∧ cm < H
  gb : B ≤ g ∧ g < H
  rows : ∃ cs, Blk w g 40 cs ∧ cs.size = n ∧ ∀ i, lo ≤ i → i < n → ∃ r, cs[i]? = some (.slice (some ⟨r, 0, none⟩) m m) ∧ Blk w r 4 (bls (rowB m m (R i))) ∧ B ≤ r ∧ r < H
theorem Tbl.keep {w w' : World} {B H cm g n m lo : Nat} {R : Nat → Nat → Bool} (h : Tbl w B H cm g n m lo R) (hb : ∀ b, b < H → b < w.heap.size → w'.heap[b]? = w.heap[b]?) : Tbl w' B H cm g n m lo R := by
  obtain ⟨cs, h1, h2, h3⟩ := h.rows
  have up : ∀ {b : Nat} {t : TypeId} {zs : Array Value}, b < H → Blk w b t zs → Blk w' b t zs := fun hl hk => (hb _ hl hk.lt).trans hk
  exact ⟨up h.cb.2 h.c, h.cb, h.gb, cs, up h.gb.2 h1, h2, fun i hi hn => by
    obtain ⟨r, q1, q2, q3, q4⟩ := h3 i hi hn
    exact ⟨r, q1, up q4 q2, q3, q4⟩⟩
theorem Tbl.on {w w' : World} {B H cm g n m lo : Nat} {R : Nat → Nat → Bool} (h : Tbl w B H cm g n m lo R) (hb : Below w.heap.size w w') : Tbl w' B H cm g n m lo R := h.keep fun b _ hl => hb.block b hl
theorem Tbl.more {w : World} {B H H' cm g n m lo : Nat} {R : Nat → Nat → Bool} (h : Tbl w B H cm g n m lo R) (hh : H ≤ H') : Tbl w B H' cm g n m lo R := by
  obtain ⟨cs, h1, h2, h3⟩ := h.rows
  exact ⟨h.c, ⟨h.cb.1, by have := h.cb.2; omega⟩, ⟨h.gb.1, by have := h.gb.2; omega⟩, cs, h1, h2, fun i hi hn => by
    obtain ⟨r, q1, q2, q3, q4⟩ := h3 i hi hn
    exact ⟨r, q1, q2, q3, by omega⟩⟩
/-- Another node's row is hung in. -/
theorem Tbl.hang {w : World} {B H cm g n m lo : Nat} {R : Nat → Nat → Bool} (h : Tbl w B H cm g n m (lo + 1) R) (u : Value) : Tbl (w.setCell ⟨g, lo, none⟩ u) B H cm g n m (lo + 1) R := by
  obtain ⟨cs, h1, h2, h3⟩ := h.rows
  refine ⟨h.c.far (fun e => blk_far h.c h1 (by decide) e) u, h.cb, h.gb, _, h1.put lo u, by simpa using h2, fun i hi hn => ?_⟩
  obtain ⟨r, q1, q2, q3, q4⟩ := h3 i hi hn
  exact ⟨r, by rw [Array.getElem?_setIfInBounds_ne (by omega)]; exact q1, q2.far (fun e => blk_far q2 h1 (by decide) e) u, q3, q4⟩
/-- A row that is worked out stands with the others. -/
theorem Tbl.done {w : World} {B H cm g n m lo r : Nat} {R : Nat → Nat → Bool} (h : Tbl w B H cm g n m (lo + 1) R) (hn : lo < n) (hc : w.cell? ⟨g, lo, none⟩ = some (.slice (some ⟨r, 0, none⟩) m m)) (hr : Blk w r 4 (bls (rowB m m (R lo)))) (hB : B ≤ r) (hH : H ≤ r) : Tbl w B (r + 1) cm g n m lo R := by
  obtain ⟨cs, h1, h2, h3⟩ := h.rows
  refine ⟨h.c, ⟨h.cb.1, by have := h.cb.2; omega⟩, ⟨h.gb.1, by have := h.gb.2; omega⟩, cs, h1, h2, fun i hi hin => ?_⟩
  by_cases e : i = lo
  · subst e
    exact ⟨r, by rw [← h1.cell]; exact hc, hr, hB, by omega⟩
  · obtain ⟨r', q1, q2, q3, q4⟩ := h3 i (by omega) hin
    exact ⟨r', q1, q2, q3, by omega⟩
theorem Tbl.at_ {w : World} {B H cm g n m lo : Nat} {R : Nat → Nat → Bool} (h : Tbl w B H cm g n m lo R) {i a : Nat} (hi : lo ≤ i) (hn : i < n) (ha : a < m) :
    ∃ r, w.cell? ⟨g, i, none⟩ = some (.slice (some ⟨r, 0, none⟩) m m) ∧ w.cell? ⟨r, a, none⟩ = some (.bool (R i a)) := by
  obtain ⟨cs, h1, h2, h3⟩ := h.rows
  obtain ⟨r, q1, q2, q3, q4⟩ := h3 i hi hn
  exact ⟨r, by rw [h1.cell]; exact q1, by rw [q2.cell, rowB_at _ ha, if_pos ha]⟩
theorem den_stands (w : World) {B H cm g n m lo : Nat} {R : Nat → Nat → Bool} (h : Tbl w B H cm g n m lo R) (i a : Nat) (hi : lo ≤ i) (hn : i < n) (ha : a < m) :
    Calls Tryz.prog 34 #[.int .i64 (i : Int), .int .i64 (a : Int), .pointer (some ⟨cm, 0, none⟩)] w fun e w' => e = .returned (.bool (R i a)) ∧ w' = w := by
  obtain ⟨r, c1, c2⟩ := h.at_ hi hn ha
  have c0 : w.cell? ⟨cm, 0, none⟩ = some (.slice (some ⟨g, 0, none⟩) n n) := by rw [h.c.cell]; rfl
  have hin : (i : Int) < n := by omega
  have ham : (a : Int) < m := by omega
  generalize R i a = b at *
  clear h hi hn ha
  go_enter Tryz.func34, Tryz.ntmps34
  go_wp2_with fail
  go_ret
  exact ⟨rfl, rfl⟩
theorem infoRow : (Tryz.prog.info? 40).map (fun i => (i.zero, i.size, i.bytes)) = some (some (.slice none 0 0), 1, 24) := by kernel_rfl
theorem made_slices (z : Value) (n : Nat) : madeCells #[z] n = Array.replicate n z := by
  apply Array.ext
  · simp [size_madeCells]
  · intro i h1 h2
    simp [madeCells, Nat.mod_one]
/-- A part by value. -/
def vP (p : Pt) : Value := .agg #[.int .i64 p.x.k, .int .u64 p.x.n, .string p.x.s, .slice p.A p.x.l.length p.cap, .int .i64 p.it]
/-- The function that reads the table. -/
def standsV (cm : Nat) : Value := .func (.func 34) #[] #[.pointer (some ⟨cm, 0, none⟩)]
/-- What a rule is: a function of a part and its place, that asks the table of later nodes. -/
structure Rule (w0 W W' : World) (B cm g n m node : Nat) (R : Nat → Nat → Bool) (ps : List Pt) (fid : Nat) (lb : Array Value) : Prop where
  call : ∀ (W2 : World) (H at_ : Nat) (pt : Pt), ps[at_]? = some pt → Tbl W2 B H cm g n m (node + 1) R → Below w0.heap.size w0 W2 → (∀ b, W.heap.size ≤ b → b < W'.heap.size → W2.heap[b]? = W'.heap[b]?) →
    Calls Tryz.prog fid (#[vP pt, .int .i64 (at_ : Int)] ++ lb) W2 fun e W3 => e = .returned (.bool (R node at_)) ∧ Below W2.heap.size W2 W3
end Go.Proofs.YtjelgoeamaejmaaGreat
