/- The sort of keyed fields: what the closure tells, what the library's stable sort of 20 or fewer comes to. -/
import Derived.Test.YtgbbgdjdomkohaaGreatKBF
import Derived.Test.YtgbbgdjdomkohaaGreatKBG
import Derived.Test.YtgbbgdjdomkohaaGreatKAZ
import Derived.Shelf.SlSortCmp.InsertionK
import Derived.Shelf.SlSortCmp.NoneTotal
import Derived.LoopN
import Derived.Test.YtgbbgdjdomkohaaGreatKAR
import Derived.Test.YtgbbgdjdomkohaaGreatKAK
import Derived.Deep.QuietTactic
import Derived.Test.YtgbbgdjdomkohaaGreatKBE
namespace Go.Proofs.YtgbbgdjdomkohaaGreat
open Go.RowKit Go.Sort

/-- A field with its key's encoding in memory: not in block g. -/
structure KE (w : World) (g : Nat) where
  f : Fl
  L : List Int
  A : Option Addr
  cap : Nat
  rd : RdX w g .u8 A L
  byt : ByteL L
instance instKE (w : World) (g : Nat) : Inhabited (KE w g) := ⟨⟨⟨⟨#[]⟩, 0, false⟩, [], none, 0, RdX.nil, fun c hc => by cases hc⟩⟩
section
variable {w w' : World} {g : Nat}
def kenc (x : KE w g) : List Value := [.slice x.A x.L.length x.cap, .string x.f.key, .int .i64 x.f.node, .bool x.f.opt]
def kcf (x y : KE w g) : Int := seqC intC x.L y.L
theorem kenc_len (x : KE w g) : (kenc x).length = 4 := rfl
theorem kenc_one (x : KE w g) : ∀ u ∈ kenc x, u.oneCell' = true := by
  intro u hu
  simp only [kenc, List.mem_cons, List.not_mem_nil, or_false] at hu
  rcases hu with rfl | rfl | rfl | rfl <;> rfl
theorem kflat_get : ∀ (l : List (KE w g)) (j : Nat), j < l.length * 4 → (l.flatMap kenc)[j]! = (kenc l.toArray[j / 4]!)[j % 4]!
  | [], j, h => by simp at h
  | x :: l, j, h => by
    rw [List.flatMap_cons]
    by_cases hj : j < 4
    · rw [Nat.div_eq_of_lt hj, Nat.mod_eq_of_lt hj, List.getElem!_eq_getElem?_getD, List.getElem?_append_left (by rw [kenc_len]; exact hj), List.getElem!_eq_getElem?_getD]
      rfl
    · have ih := kflat_get l (j - 4) (by rw [List.length_cons] at h; omega)
      rw [List.getElem!_eq_getElem?_getD, List.getElem?_append_right (by rw [kenc_len]; omega), kenc_len, ← List.getElem!_eq_getElem?_getD, ih]
      have e1 : j / 4 = (j - 4) / 4 + 1 := by omega
      have e2 : (j - 4) % 4 = j % 4 := by omega
      rw [e1, e2]
      congr 2
      simp [getElem!_def]
theorem kflat_len (l : List (KE w g)) : (l.flatMap kenc).length = l.length * 4 := by
  induction l with
  | nil => rfl
  | cons x l ih => rw [List.flatMap_cons, List.length_append, ih, kenc_len, List.length_cons]; omega
theorem holds_ke {W : World} {B cap m : Nat} {l : List (KE w g)} {e : TypeId} (h : W.ownsRow B e 4 (.slice (some ⟨g, 0, none⟩) m cap) l.length (l.flatMap kenc)) : HoldsK kenc 4 W g 0 l.toArray := by
  intro j hj
  rw [size_flatK, List.size_toArray] at hj
  rw [Nat.zero_add, get_flatK _ _ _ _ (by rw [List.size_toArray]; exact hj), ← kflat_get l j hj]
  obtain ⟨h1, h2⟩ := oc_cell h hj
  refine ⟨?_, h2⟩
  rw [h1, List.getElem!_eq_getElem?_getD, List.getElem?_eq_getElem (by rw [kflat_len]; omega)]
  rfl
theorem only_sortK {α : Type} [Inhabited α] (enc : α → List Value) (k : Nat) (w : World) (g off m : Nat) (dk : Array α) (os : Array Obj) : Only g w (sortWorldK enc k w g off m dk os) := by
  refine ⟨rfl, rfl, rfl, ?_, fun b hb hne => ?_⟩
  · simp [sortWorldK, putRowK, putRow, mapBlock, Sort.ahead, Sort.grow]
  · have hne' : g ≠ b := fun e => hne (by rw [e])
    simp only [sortWorldK, putRowK, putRow, mapBlock, Sort.ahead, Sort.grow]
    rw [Array.getElem?_append_left (by rw [Array.size_modify]; omega), Array.getElem?_modify, if_neg hne']

set_option maxRecDepth 100000 in
set_option maxHeartbeats 1000000 in
theorem sch_cmp (k1 k2 : ByteArray) (n1 n2 : Int) (q1 q2 : Bool) (A1 A2 : Option Addr) (c1 c2 : Nat) (L1 L2 : List Int) (W : World) (h1 : Rd W W.heap.size .u8 A1 L1) (h2 : Rd W W.heap.size .u8 A2 L2) (b1 : ByteL L1) (b2 : ByteL L2) :
    Calls Tryz.prog 12 #[.agg #[.slice A1 L1.length c1, .string k1, .int .i64 n1, .bool q1], .agg #[.slice A2 L2.length c2, .string k2, .int .i64 n2, .bool q2]] W fun e w' => e = .returned (.int .i64 (seqC intC L1 L2)) ∧ Bel W.heap.size W w' := by
  obtain ⟨w1, hw1, x1, x2, S⟩ := iblk2B W 49 #[.slice A1 L1.length c1, .string k1, .int .i64 n1, .bool q1] #[.slice A2 L2.length c2, .string k2, .int .i64 n2, .bool q2]
  obtain ⟨p0, p1, p2, p3, -⟩ := iblk x1
  obtain ⟨q0', q1', q2', q3', -⟩ := iblk x2
  have HC := Lib.hid (bytes_compare A1 A2 c1 c2 L1 L2 w1 ((h1.below S.toBelow).more S.size) ((h2.below S.toBelow).more S.size) b1 b2)
  have HS := Lib.hid S
  clear S h1 h2 b1 b2 x1 x2
  generalize seqC intC L1 L2 = z at *
  generalize L1.length = m1 at *
  generalize L2.length = m2 at *
  go_enter Tryz.func12, Tryz.ntmps12
  go_wp2_with (first
    | (go_at_call 13; refine HC.out.mono ?_; rintro e w' ⟨rfl, rfl⟩)
    | fail)
  go_ret
  exact ⟨rfl, HS.out⟩
theorem cmp_ke {W : World} {size : Nat} (ho : Only g w W) : CmpLays Tryz.prog 12 #[] kenc 4 (kcf (w := w) (g := g)) g 0 size W := by
  intro m os dk _ x y
  have hb := ho.trans (only_sortK kenc 4 W g 0 m dk os)
  exact (sch_cmp x.f.key y.f.key x.f.node y.f.node x.f.opt y.f.opt x.A y.A x.cap y.cap x.L y.L _ (x.rd.only hb).rd (y.rd.only hb).rd x.byt y.byt).mono fun e w' h => ⟨h.1, h.2.grow⟩
/-- A slice's block holds these. -/
def HoldsL (W : World) (g : Nat) (l : List (KE w g)) : Prop := HoldsK kenc 4 W g 0 l.toArray
theorem HoldsL.cells {W : World} {l : List (KE w g)} (h : HoldsL W g l) {j : Nat} {x : KE w g} (hx : l[j]? = some x) : W.cell? ⟨g, j * 4, none⟩ = some (.slice x.A x.L.length x.cap) ∧ W.cell? ⟨g, j * 4 + 1, none⟩ = some (.string x.f.key) ∧ W.cell? ⟨g, j * 4 + 2, none⟩ = some (.int .i64 x.f.node) ∧ W.cell? ⟨g, j * 4 + 3, none⟩ = some (.bool x.f.opt) := by
  obtain ⟨hj, rfl⟩ := List.getElem?_eq_some_iff.1 hx
  have hlt : j < l.toArray.size := by simpa using hj
  have e : l.toArray[j]! = l[j] := by rw [getElem!_pos l.toArray j hlt]; rfl
  have hc := fun (c : Nat) (h4 : c < 4) => (HoldsK.cell h hlt h4).1
  rw [e] at hc
  refine ⟨?_, ?_, ?_, ?_⟩
  · have := hc 0 (by omega); rw [Nat.zero_add, Nat.add_zero] at this; exact this
  · have := hc 1 (by omega); rw [Nat.zero_add] at this; exact this
  · have := hc 2 (by omega); rw [Nat.zero_add] at this; exact this
  · have := hc 3 (by omega); rw [Nat.zero_add] at this; exact this
theorem eg_cmp : ∀ args W, (callFunc 12 args).run Tryz.prog W = .ok (.enter 12 args) W := enters_of Tryz.func12 (by kernel_rfl) rfl
/-- The library's insertion sort, the whole. -/
theorem run_insert (l : List (KE w g)) (cap : Nat) (W : World) (ho : Only g w W) (hH : HoldsL W g l) (hg : g < W.heap.size) (hn : l.length ≤ 1048576) :
    Calls Tryz.prog 29 #[.slice (some ⟨g, 0, none⟩) l.length cap, .int .i64 0, .int .i64 (l.length : Int), .func (.func 12) #[] #[]] W fun e w' => e = .returned (.tuple #[]) ∧ Only g W w' ∧ HoldsL w' g (insS (Go.Proofs.ltOf kcf) l) := by
  have hs : l.toArray.size = l.length := by simp
  have hcon := Go.Proofs.AnyQ.insertionSortCmpFunc Tryz.insKeyed 4 Tryz.isAgg49 Tryz.sizeOf49 kenc kenc_len kenc_one kcf 12 #[] g 0 cap 0 l.length l.toArray W eg_cmp (cmp_ke ho) hH hg (Nat.zero_le _) (by rw [hs]; exact Nat.le_refl _) (by rw [hs]; omega)
  rw [hs] at hcon
  refine Calls.mono hcon ?_
  rintro e w' ⟨rfl, m, os, rfl⟩
  refine ⟨rfl, only_sortK _ _ _ _ _ _ _ _, ?_⟩
  rw [insertionSort_list]
  exact holdsK_sortWorldK kenc 4 W g 0 m l.toArray _ os hg hH (by simp [insS_length])
/-- .. of none of them. -/
theorem run_insert0 (l : List (KE w g)) (cap n : Nat) (W : World) (ho : Only g w W) (hH : HoldsL W g l) (hg : g < W.heap.size) (hn : l.length = n) (hb : n ≤ 1048576) :
    Calls Tryz.prog 29 #[.slice (some ⟨g, 0, none⟩) n cap, .int .i64 (n : Int), .int .i64 (n : Int), .func (.func 12) #[] #[]] W fun e w' => e = .returned (.tuple #[]) ∧ Only g W w' ∧ HoldsL w' g l := by
  have hs : l.toArray.size = n := by simp [hn]
  have hcon := Go.Proofs.AnyQ.insertionSortCmpFunc Tryz.insKeyed 4 Tryz.isAgg49 Tryz.sizeOf49 kenc kenc_len kenc_one kcf 12 #[] g 0 cap n n l.toArray W eg_cmp (cmp_ke ho) hH hg (Nat.le_refl _) (by rw [hs]; exact Nat.le_refl _) (by rw [hs]; omega)
  rw [hs] at hcon
  refine Calls.mono hcon ?_
  rintro e w' ⟨rfl, m, os, rfl⟩
  refine ⟨rfl, only_sortK _ _ _ _ _ _ _ _, ?_⟩
  have e : Sort.insertionSort (Go.Proofs.ltOf (kcf (w := w) (g := g))) l.toArray n n = l.toArray := by unfold Sort.insertionSort; rw [insOuter_stop _ _ _ _ _ (by omega)]
  rw [e]
  exact holdsK_sortWorldK kenc 4 W g 0 m l.toArray _ os hg hH rfl
end
end Go.Proofs.YtgbbgdjdomkohaaGreat

/- slices.SortStableFunc over 20 or fewer keyed fields. -/
namespace Go.Proofs.YtgbbgdjdomkohaaGreat
open Go.RowKit Go.Sort

section
variable {w : World} {g : Nat}
set_option maxRecDepth 100000 in
set_option maxHeartbeats 2000000 in
theorem run_stableC (l : List (KE w g)) (cap n : Nat) (W : World) (ho : Only g w W) (hH : HoldsL W g l) (hg : g < W.heap.size) (hn : l.length = n) (hb : n ≤ 20) :
    Calls Tryz.prog 19 #[.slice (some ⟨g, 0, none⟩) n cap, .int .i64 (n : Int), .func (.func 12) #[] #[]] W fun e w' => e = .returned (.tuple #[]) ∧ Only g W w' ∧ HoldsL w' g (insS (Go.Proofs.ltOf kcf) l) := by
  have hc1 := run_insert l cap W ho hH hg (by omega)
  rw [hn] at hc1
  have HC1 := Lib.hid hc1
  have HC2 : Hid (∀ W', Only g W W' → HoldsL W' g (insS (Go.Proofs.ltOf kcf) l) → Calls Tryz.prog 29 #[.slice (some ⟨g, 0, none⟩) n cap, .int .i64 (n : Int), .int .i64 (n : Int), .func (.func 12) #[] #[]] W' fun e w' => e = .returned (.tuple #[]) ∧ Only g W' w' ∧ HoldsL w' g (insS (Go.Proofs.ltOf kcf) l)) := Lib.hid fun W' h1 h2 =>
    run_insert0 (insS (Go.Proofs.ltOf kcf) l) cap n W' (ho.trans h1) h2 (Nat.lt_of_lt_of_le hg h1.size) (by rw [insS_length]; exact hn) (by omega)
  clear hc1 hH hg ho hn
  generalize insS (Go.Proofs.ltOf kcf) l = R at *
  by_cases h20 : n = 20
  · subst h20
    go_enter Tryz.func19, Tryz.ntmps19
    go_wp2_with fail
    refine wp_loop_rounds 2 ?_
    rw [rounds_succ]
    go_wp2_with (first
      | (go_at_call 29; refine HC1.out.mono ?_; rintro e w2 ⟨rfl, ho2, hl2⟩; have HO2 := Lib.hid ho2; have HL2 := Lib.hid hl2; clear ho2 hl2)
      | fail)
    rw [rounds_succ]
    go_wp2_with (first
      | (go_at_call 29; refine (HC2.out _ HO2.out HL2.out).mono ?_; rintro e w3 ⟨rfl, ho3, hl3⟩; have HO3 := Lib.hid (HO2.out.trans ho3); have HL3 := Lib.hid hl3; clear ho3 hl3)
      | fail)
    refine wp_loop_rounds 1 ?_
    rw [rounds_succ]
    go_wp2_with fail
    go_end0
    exact ⟨rfl, HO3.out, HL3.out⟩
  · have hlt : (n : Int) < 20 := by omega
    have hlt' : ¬ (20 : Int) ≤ n := by omega
    have hlt'' : ¬ (20 : Int) < n := by omega
    go_enter Tryz.func19, Tryz.ntmps19
    go_wp2_with fail
    refine wp_loop_rounds 1 ?_
    rw [rounds_succ]
    go_wp2_with (first
      | (go_at_call 29; refine HC1.out.mono ?_; rintro e w2 ⟨rfl, ho2, hl2⟩; have HO2 := Lib.hid ho2; have HL2 := Lib.hid hl2; clear ho2 hl2)
      | fail)
    refine wp_loop_rounds 1 ?_
    rw [rounds_succ]
    go_wp2_with fail
    go_end0
    exact ⟨rfl, HO2.out, HL2.out⟩
theorem run_stable (l : List (KE w g)) (cap n : Nat) (W : World) (ho : Only g w W) (hH : HoldsL W g l) (hg : g < W.heap.size) (hn : l.length = n) (hb : n ≤ 20) :
    Calls Tryz.prog 11 #[.slice (some ⟨g, 0, none⟩) n cap, .func (.func 12) #[] #[]] W fun e w' => e = .returned (.tuple #[]) ∧ Only g W w' ∧ HoldsL w' g (insS (Go.Proofs.ltOf kcf) l) := by
  have HC := Lib.hid (run_stableC l cap n W ho hH hg hn hb)
  clear ho hH hg hn
  generalize insS (Go.Proofs.ltOf kcf) l = R at *
  go_enter Tryz.func11, Tryz.ntmps11
  go_wp2_with (first
    | (go_at_call 19; refine HC.out.mono ?_; rintro e w2 ⟨rfl, ho2, hl2⟩; have HO2 := Lib.hid ho2; have HL2 := Lib.hid hl2; clear ho2 hl2)
    | fail)
  go_end0
  exact ⟨rfl, HO2.out, HL2.out⟩
end
/-- No field at all. -/
theorem run_stable_none (p : Option Addr) (cap : Nat) (W : World) :
    Calls Tryz.prog 11 #[.slice p 0 cap, .func (.func 12) #[] #[]] W fun e w' => e = .returned (.tuple #[]) ∧ w' = W := by
  have HI := Lib.hid (fun W => Go.Proofs.AnyF.insertionSortCmpFunc_none Tryz.insKeyed p cap (.func (.func 12) #[] #[]) W)
  have HC : Hid (∀ W, Calls Tryz.prog 19 #[.slice p 0 cap, .int .i64 0, .func (.func 12) #[] #[]] W fun e w' => e = .returned (.tuple #[]) ∧ w' = W) := Lib.hid fun W => by
    go_enter Tryz.func19, Tryz.ntmps19
    go_wp2_with fail
    refine wp_loop_rounds 1 ?_
    rw [rounds_succ]
    go_wp2_with (first
      | (go_at_call 29; refine (HI.out _).mono ?_; rintro e w2 ⟨rfl, rfl⟩)
      | fail)
    refine wp_loop_rounds 1 ?_
    rw [rounds_succ]
    go_wp2_with fail
    go_end0
    exact ⟨rfl, rfl⟩
  clear HI
  go_enter Tryz.func11, Tryz.ntmps11
  go_wp2_with (first
    | (go_at_call 19; refine (HC.out _).mono ?_; rintro e w2 ⟨rfl, rfl⟩)
    | fail)
  go_end0
  exact ⟨rfl, rfl⟩
end Go.Proofs.YtgbbgdjdomkohaaGreat

/- Lists of numbers, lists of fields held against each other; two nodes held against each other. -/
namespace Go.Proofs.YtgbbgdjdomkohaaGreat
open Go.RowKit

theorem list_ne_at {α : Type} {xs ys : List α} {k : Nat} (h : xs[k]? ≠ ys[k]?) : xs ≠ ys := fun e => h (by rw [e])
theorem list_eq_upto {α : Type} {xs ys : List α} (hl : xs.length = ys.length) (h : ∀ j, j < xs.length → xs[j]? = ys[j]?) : xs = ys := List.ext_getElem? fun j => by
  by_cases hj : j < xs.length
  · exact h j hj
  · rw [List.getElem?_eq_none (by omega), List.getElem?_eq_none (by omega)]
open Classical in
noncomputable def sameL {α : Type} (a b : List α) : Bool := decide (a = b)
theorem sameL_true {α : Type} {a b : List α} : sameL a b = true ↔ a = b := by simp [sameL]
theorem sameL_false {α : Type} {a b : List α} : sameL a b = false ↔ a ≠ b := by simp [sameL]
theorem sameL_of {α : Type} {a b : List α} {r : Bool} (h : r = true ↔ a = b) : sameL a b = r := by
  cases r
  · exact sameL_false.2 fun e => by simpa using h.2 e
  · exact sameL_true.2 (h.1 rfl)
theorem Rd.get' {w : World} {n : Nat} {k : IntKind} {A : Option Addr} {xs : List Int} (h : Rd w n k A xs) {i : Nat} (hi : i < xs.length) : ∃ b o x, A = some ⟨b, o, none⟩ ∧ b < n ∧ xs[i]? = some x ∧ w.cell? ⟨b, o + i, none⟩ = some (.int k x) := by
  obtain ⟨b, o, rfl, h1, h2⟩ := h.get hi
  refine ⟨b, o, xs[i], rfl, h1, List.getElem?_eq_getElem hi, ?_⟩
  rw [h2, List.getD_eq_getElem?_getD, List.getElem?_eq_getElem hi]
  rfl

set_option maxRecDepth 100000 in
set_option maxHeartbeats 1000000 in
theorem eq_ints (xs ys : List Int) (A B : Option Addr) (ca cb n : Nat) (w : World) (hn : n ≤ w.heap.size) (hx : Rd w n .i64 A xs) (hy : Rd w n .i64 B ys) (hm : xs.length ≤ 1099511627776) :
    Calls Tryz.prog 43 #[.slice A xs.length ca, .slice B ys.length cb] w fun e w' => e = .returned (.bool (sameL xs ys)) ∧ Below w.heap.size w w' := by
  by_cases hl : xs.length = ys.length
  · have HL := Lib.hid hl
    obtain ⟨m, hmm⟩ : ∃ m, xs.length = m := ⟨_, rfl⟩
    rw [← hl, hmm]
    rw [hmm] at hm
    have HM := Lib.hid hmm
    have HX : Hid (∀ w', Below w.heap.size w w' → Rd w' n .i64 A xs) := Lib.hid fun w' hb => hx.below (hb.mono hn)
    have HY : Hid (∀ w', Below w.heap.size w w' → Rd w' n .i64 B ys) := Lib.hid fun w' hb => hy.below (hb.mono hn)
    clear hl hmm hx hy
    go_enter Tryz.func43, Tryz.ntmps43
    go_wp2_with fail
    go_loopw [5, 13] (fun v i wr => ∃ k : Nat, k ≤ m ∧ i = .int .i64 (k : Int) ∧ Hid (Below w.heap.size w wr) ∧ Hid (∀ j, j < k → xs[j]? = ys[j]?)) (fun _ i _ => m - (intOf i).toNat)
    case atStart => exact ⟨0, by omega, rfl, Lib.hid (Below.refl _ _), Lib.hid fun j hj => absurd hj (by omega)⟩
    case round =>
      obtain ⟨k, hk, rfl, HB, HE⟩ := hrel
      by_cases hlt : k < m
      · obtain ⟨b1, o1, x, rfl, -, X, c1⟩ := (HX.out wr HB.out).get' (i := k) (by rw [HM.out]; exact hlt)
        obtain ⟨b2, o2, y, rfl, -, Y, c2⟩ := (HY.out wr HB.out).get' (i := k) (by rw [← HL.out, HM.out]; exact hlt)
        have HXK := Lib.hid X
        have HYK := Lib.hid Y
        clear X Y
        skip
        by_cases e : x = y
        · have HEE := Lib.hid e
          subst e
          go_wp2_with fail
          go_quiet (fail)
          have HQ := Lib.hid (below_drewN (Below.refl wr.heap.size wr) nq)
          generalize wr.drewN nq = w2 at *
          go_wp2_with fail
          go_roundw
          case rel => exact ⟨k + 1, by omega, by simp, Lib.hid (HB.out.trans (HQ.out.mono HB.out.size)), Lib.hid fun j hj => by
            by_cases e : j = k
            · subst e; rw [HXK.out, HYK.out]
            · exact HE.out j (by omega)⟩
          case measure => simp [intOf]; omega
        · have HF : Hid (sameL xs ys = false) := Lib.hid (sameL_false.2 (list_ne_at (k := k) (by rw [HXK.out, HYK.out]; exact fun h => e (by injection h))))
          have e1 : (x != y) = true := by simp [e]
          go_wp2_with fail
          go_quiet (fail)
          have HQ := Lib.hid (below_drewN (Below.refl wr.heap.size wr) nq)
          generalize wr.drewN nq = w2 at *
          go_wp2_with fail
          go_ret
          exact ⟨by rw [HF.out]; rfl, HB.out.trans (HQ.out.mono HB.out.size)⟩
      · obtain rfl : k = m := by omega
        have HF : Hid (sameL xs ys = true) := Lib.hid (sameL_true.2 (list_eq_upto HL.out (by rw [HM.out]; exact HE.out)))
        go_wp2_with fail
        go_ret
        exact ⟨by rw [HF.out]; rfl, HB.out⟩
  · have HF : Hid (sameL xs ys = false) := Lib.hid (sameL_false.2 fun e => hl (by rw [e]))
    have hne : ((xs.length : Int) != ys.length) = true := by simp; omega
    go_enter Tryz.func43, Tryz.ntmps43
    go_wp2_with fail
    go_ret
    exact ⟨by rw [HF.out]; rfl, Below.refl _ _⟩

set_option maxRecDepth 100000 in
set_option maxHeartbeats 1000000 in
theorem eq_fields (xs ys : List Fl) (A B : Option Addr) (ca cb n : Nat) (w : World) (hn : n ≤ w.heap.size) (hx : RdF w n A xs) (hy : RdF w n B ys) (hm : xs.length ≤ 1099511627776) :
    Calls Tryz.prog 44 #[.slice A xs.length ca, .slice B ys.length cb] w fun e w' => e = .returned (.bool (sameL xs ys)) ∧ Below w.heap.size w w' := by
  by_cases hl : xs.length = ys.length
  · have HL := Lib.hid hl
    obtain ⟨m, hmm⟩ : ∃ m, xs.length = m := ⟨_, rfl⟩
    rw [← hl, hmm]
    rw [hmm] at hm
    have HM := Lib.hid hmm
    have HX : Hid (∀ w', Below w.heap.size w w' → RdF w' n A xs) := Lib.hid fun w' hb => hx.keep (hb.mono hn)
    have HY : Hid (∀ w', Below w.heap.size w w' → RdF w' n B ys) := Lib.hid fun w' hb => hy.keep (hb.mono hn)
    clear hl hmm hx hy
    go_enter Tryz.func44, Tryz.ntmps44
    go_wp2_with fail
    go_loopw [5, 13] (fun v i wr => ∃ k : Nat, k ≤ m ∧ i = .int .i64 (k : Int) ∧ Hid (Below w.heap.size w wr) ∧ Hid (∀ j, j < k → xs[j]? = ys[j]?)) (fun _ i _ => m - (intOf i).toNat)
    case atStart => exact ⟨0, by omega, rfl, Lib.hid (Below.refl _ _), Lib.hid fun j hj => absurd hj (by omega)⟩
    case round =>
      obtain ⟨k, hk, rfl, HB, HE⟩ := hrel
      by_cases hlt : k < m
      · obtain ⟨b1, o1, x, rfl, -, -, X, c1, c2, c3⟩ := (HX.out wr HB.out).get (i := k) (by rw [HM.out]; exact hlt)
        obtain ⟨b2, o2, y, rfl, -, -, Y, d1, d2, d3⟩ := (HY.out wr HB.out).get (i := k) (by rw [← HL.out, HM.out]; exact hlt)
        have HXK := Lib.hid X
        have HYK := Lib.hid Y
        clear X Y
        obtain ⟨k1, n1, q1⟩ := x
        obtain ⟨k2, n2, q2⟩ := y
        simp only at c1 c2 c3 d1 d2 d3
        by_cases e : k1 = k2 ∧ n1 = n2 ∧ q1 = q2
        · have HEE := Lib.hid e
          obtain ⟨rfl, rfl, rfl⟩ := e
          go_wp2_with fail
          go_quiet (fail)
          have HQ := Lib.hid (below_drewN (Below.refl wr.heap.size wr) nq)
          generalize wr.drewN nq = w2 at *
          go_wp2_with fail
          go_roundw
          case rel => exact ⟨k + 1, by omega, by simp, Lib.hid (HB.out.trans (HQ.out.mono HB.out.size)), Lib.hid fun j hj => by
            by_cases e : j = k
            · subst e; rw [HXK.out, HYK.out]
            · exact HE.out j (by omega)⟩
          case measure => simp [intOf]; omega
        · have HF : Hid (sameL xs ys = false) := Lib.hid (sameL_false.2 (list_ne_at (k := k) (by rw [HXK.out, HYK.out]; exact fun h => e (by injection h with h; simpa using h))))
          obtain ⟨ek, en, eq⟩ | ⟨ek, en⟩ | ek : (k1 = k2 ∧ n1 = n2 ∧ ¬ q1 = q2) ∨ (k1 = k2 ∧ ¬ n1 = n2) ∨ ¬ k1 = k2 := by
            by_cases ek : k1 = k2 <;> by_cases en : n1 = n2 <;> by_cases eq : q1 = q2 <;> simp_all
          · subst ek en
            have e1 : (q1 == q2) = false := by simpa using eq
            clear e eq
            go_wp2_with fail
            go_quiet (fail)
            have HQ := Lib.hid (below_drewN (Below.refl wr.heap.size wr) nq)
            generalize wr.drewN nq = w2 at *
            go_wp2_with fail
            go_ret
            exact ⟨by rw [HF.out]; rfl, HB.out.trans (HQ.out.mono HB.out.size)⟩
          · subst ek
            have e1 : (n1 == n2) = false := by simpa using en
            clear e en
            go_wp2_with fail
            go_quiet (fail)
            have HQ := Lib.hid (below_drewN (Below.refl wr.heap.size wr) nq)
            generalize wr.drewN nq = w2 at *
            go_wp2_with fail
            go_ret
            exact ⟨by rw [HF.out]; rfl, HB.out.trans (HQ.out.mono HB.out.size)⟩
          · have e1 : (k1.toList == k2.toList) = false := beq_eq_false_iff_ne.2 fun h => ek (text_eq h)
            clear e ek
            go_wp2_with fail
            go_quiet (fail)
            have HQ := Lib.hid (below_drewN (Below.refl wr.heap.size wr) nq)
            generalize wr.drewN nq = w2 at *
            go_wp2_with fail
            go_ret
            exact ⟨by rw [HF.out]; rfl, HB.out.trans (HQ.out.mono HB.out.size)⟩
      · obtain rfl : k = m := by omega
        have HF : Hid (sameL xs ys = true) := Lib.hid (sameL_true.2 (list_eq_upto HL.out (by rw [HM.out]; exact HE.out)))
        go_wp2_with fail
        go_ret
        exact ⟨by rw [HF.out]; rfl, HB.out⟩
  · have HF : Hid (sameL xs ys = false) := Lib.hid (sameL_false.2 fun e => hl (by rw [e]))
    have hne : ((xs.length : Int) != ys.length) = true := by simp; omega
    go_enter Tryz.func44, Tryz.ntmps44
    go_wp2_with fail
    go_ret
    exact ⟨by rw [HF.out]; rfl, Below.refl _ _⟩
end Go.Proofs.YtgbbgdjdomkohaaGreat

/- Two nodes held against each other: the program's, the document's. -/
namespace Go.Proofs.YtgbbgdjdomkohaaGreat
open Go.RowKit

/-- Two nodes boxed, one behind the other. -/
theorem nblk2 (w : World) (t : TypeId) (a b : Array Value) : ∃ w1, (w.alloc (.cells a t)).alloc (.cells b t) = w1 ∧ Blk w1 w.heap.size t a ∧ Blk w1 (w.heap.size + 1) t b ∧ Below w.heap.size w w1 := iblk2 w t a b
theorem sameN_parts (x y : Nd) : sameN x y = (decide (x.k = y.k) && decide (x.lo = y.lo) && decide (x.hi = y.hi) && sameB x.v y.v && sameL x.l y.l && sameL x.f y.f) := by
  refine sameN_of ?_
  simp only [Bool.and_eq_true, decide_eq_true_eq, sameB_true, sameL_true, Nd.eq_iff, and_assoc]

set_option maxRecDepth 100000 in
set_option maxHeartbeats 4000000 in
theorem sch_sameNode (x y : Nd) (p q : Pl) (n : Nat) (w : World) (hn : n ≤ w.heap.size) (hx : NdB w n x p) (hy : NdB w n y q) (hc : x.v.count ≤ 1099511627775) (hl : x.l.length ≤ 1099511627776) (hf : x.f.length ≤ 1099511627776) :
    Calls Tryz.prog 33 #[vN x p, vN y q] w fun e w' => e = .returned (.bool (sameN x y)) ∧ Below w.heap.size w w' := by
  obtain ⟨w1, hw1, b1, b2, S⟩ := nblk2 w 34 (nc x p) (nc y q)
  have C1 := fun W (hW : Below w.heap.size w W) => item_Same x.v y.v p.Av q.Av p.cv q.cv n W hc (Nat.le_trans hn hW.size) (hx.v.keep (hW.mono hn)) (hy.v.keep (hW.mono hn))
  have C2 := fun W (hW : Below w.heap.size w W) => eq_ints x.l y.l p.Al q.Al p.cl q.cl n W (Nat.le_trans hn hW.size) (hx.l.below (hW.mono hn)) (hy.l.below (hW.mono hn)) hl
  have C3 := fun W (hW : Below w.heap.size w W) => eq_fields x.f y.f p.Af q.Af p.cf q.cf n W (Nat.le_trans hn hW.size) (hx.f.keep (hW.mono hn)) (hy.f.keep (hW.mono hn)) hf
  rw [sameN_parts]
  generalize sameB x.v y.v = r1 at *
  generalize sameL x.l y.l = r2 at *
  generalize sameL x.f y.f = r3 at *
  have HC1 := Lib.hid C1
  have HC2 := Lib.hid C2
  have HC3 := Lib.hid C3
  have HS := Lib.hid S
  have hcl : ∀ W, Below w1.heap.size w1 W → (W.cell? ⟨w.heap.size, 7, none⟩ = some (.slice p.Al x.l.length p.cl) ∧ W.cell? ⟨w.heap.size, 8, none⟩ = some (.slice p.Af x.f.length p.cf)) ∧ W.cell? ⟨w.heap.size + 1, 7, none⟩ = some (.slice q.Al y.l.length q.cl) ∧ W.cell? ⟨w.heap.size + 1, 8, none⟩ = some (.slice q.Af y.f.length q.cf) := fun W hb =>
    ⟨⟨by rw [(b1.on hb).cell]; rfl, by rw [(b1.on hb).cell]; rfl⟩, by rw [(b2.on hb).cell]; rfl, by rw [(b2.on hb).cell]; rfl⟩
  have HCL := Lib.hid hcl
  unfold nc at b1 b2 hw1
  obtain ⟨p0, p1, p2, p3, p4, p5, p6, p7, p8⟩ := nblk b1
  obtain ⟨q0, q1, q2, q3, q4, q5, q6, q7, q8⟩ := nblk b2
  clear C1 C2 C3 S b1 b2 hcl hx hy hn hc hl hf
  simp only [vN, vI] at HC1 ⊢
  go_enter Tryz.func33, Tryz.ntmps33
  cases r1 <;> cases r2 <;> cases r3 <;>
  · go_wp2_with (first
      | (go_at_call 42; refine (HC1.out _ HS.out).mono ?_; rintro e w2 ⟨rfl, hb2⟩; obtain ⟨⟨a7, a8⟩, c7, c8⟩ := HCL.out w2 hb2; have HB2 := Lib.hid hb2; clear hb2)
      | (go_at_call 43; refine (HC2.out _ (HS.out.trans (HB2.out.mono HS.out.size))).mono ?_; rintro e w3 ⟨rfl, hb3⟩; have HB3 := Lib.hid (HB2.out.trans (hb3.mono HB2.out.size)); obtain ⟨⟨f7, f8⟩, g7, g8⟩ := HCL.out w3 HB3.out; clear hb3)
      | (go_at_call 44; refine (HC3.out _ (HS.out.trans (HB3.out.mono HS.out.size))).mono ?_; rintro e w4 ⟨rfl, hb4⟩; have HB4 := Lib.hid (HB3.out.trans (hb4.mono HB3.out.size)); clear hb4))
    all_goals go_ret
    all_goals first
      | exact ⟨by simp [*], HS.out.trans (HB4.out.mono HS.out.size)⟩
      | exact ⟨by simp [*], HS.out.trans (HB3.out.mono HS.out.size)⟩
      | exact ⟨by simp [*], HS.out.trans (HB2.out.mono HS.out.size)⟩
      | exact ⟨by simp [*], HS.out⟩

/-- One round of a loop that holds two lists against each other: what lies at place k. -/
structure Two {α : Type} (xs ys : List α) (m k : Nat) : Prop where
  lx : xs.length = m
  ly : ys.length = m
  eq : ∀ j, j < k → xs[j]? = ys[j]?
theorem Two.all {α : Type} {xs ys : List α} {m : Nat} (h : Two xs ys m m) : xs = ys := list_eq_upto (h.lx.trans h.ly.symm) (by rw [h.lx]; exact h.eq)
theorem Two.next {α : Type} {xs ys : List α} {m k : Nat} {x y : α} (h : Two xs ys m k) (hx : xs[k]? = some x) (hy : ys[k]? = some y) (e : x = y) : Two xs ys m (k + 1) := ⟨h.lx, h.ly, fun j hj => by
  by_cases e' : j = k
  · subst e'; rw [hx, hy, e]
  · exact h.eq j (by omega)⟩
theorem Two.ne {α : Type} {xs ys : List α} {k : Nat} {x y : α} (hx : xs[k]? = some x) (hy : ys[k]? = some y) (e : x ≠ y) : xs ≠ ys := list_ne_at (k := k) (by rw [hx, hy]; exact fun h => e (by injection h))

end Go.Proofs.YtgbbgdjdomkohaaGreat

/- Package schema: valued, ranged, formed. -/
namespace Go.Proofs.YtgbbgdjdomkohaaGreat
open Go.RowKit

/-- What is wrong of an item. -/
noncomputable def chI : It → Int := checkR wrongI
set_option maxRecDepth 100000 in
set_option maxHeartbeats 1000000 in
theorem sch_valued (v : It) (A : Option Addr) (cap n : Nat) (w : World) (hv : okI 1048576 v) (hn : n ≤ w.heap.size) (h : AtB w n v A cap) :
    Calls Tryz.prog 32 #[vI v A cap] w fun e w' => e = .returned (.bool (valuedN chI v)) ∧ Below w.heap.size w w' := by
  obtain ⟨w1, hw1, b1, S⟩ := iblk1 w 31 #[.int .i64 v.k, .int .u64 v.n, .string v.s, .slice A v.l.length cap]
  obtain ⟨p0, p1, p2, p3, -⟩ := iblk b1
  have HC := Lib.hid (item_CheckW v A cap n w1 hv (Nat.le_trans hn S.size) (h.keep (S.mono hn)))
  have HR : Hid (∀ r, r = ((decide (v.k = 0) || decide (v.k = 1) || decide (v.k = 2) || decide (v.k = 3) || decide (v.k = 7)) && decide (chI v = 0)) → r = valuedN chI v) := Lib.hid fun r h => h
  have HS := Lib.hid S
  clear S h hn hv b1
  change Hid (Calls _ _ _ _ fun e w' => e = .returned (.int .i64 (chI v)) ∧ _) at HC
  generalize valuedN chI v = res at *
  generalize chI v = c at *
  simp only [vI] at HC ⊢
  go_enter Tryz.func32, Tryz.ntmps32
  go_wp2_with (first
        | (go_at_call 26; refine HC.out.mono ?_; rintro e w2 ⟨rfl, hb2⟩; have HB2 := Lib.hid hb2; clear hb2))
  all_goals go_ret
  all_goals first
    | exact ⟨by rw [← HR.out _ rfl]; clear HR HC HS HB2 p0 p1 p2 p3 hw1; simp_all <;> first | rfl | omega, HS.out.trans (HB2.out.mono HS.out.size)⟩
    | exact ⟨by rw [← HR.out _ rfl]; clear HR HC HS p0 p1 p2 p3 hw1; simp_all <;> first | rfl | omega, HS.out⟩

set_option maxRecDepth 100000 in
set_option maxHeartbeats 1000000 in
theorem sch_ranged (x : Nd) (p : Pl) (w : World) :
    Calls Tryz.prog 23 #[vN x p] w fun e w' => e = .returned (.bool (rangedN x)) ∧ Below w.heap.size w w' := by
  have b1 := Blk.fresh w 34 (nc x p)
  have S := below_alloc w (.cells (nc x p) 34)
  obtain ⟨w1, hw1⟩ : ∃ w1, w.alloc (.cells (nc x p) 34) = w1 := ⟨_, rfl⟩
  rw [hw1] at b1 S
  unfold nc at b1 hw1
  obtain ⟨p0, p1, p2, p3, p4, p5, p6, p7, p8⟩ := nblk b1
  have HS := Lib.hid S
  have HR : Hid (∀ r, r = (if x.k = 2 ∨ x.k = 3 ∨ x.k = 6 then decide (0 ≤ x.lo) && decide (x.lo ≤ x.hi) else if x.k = 1 then decide (x.lo ≤ x.hi) else if x.k = 9 then decide (0 ≤ x.lo) else true) → r = rangedN x) := Lib.hid fun r h => h
  generalize rangedN x = res at *
  clear S b1
  simp only [vN]
  go_enter Tryz.func23, Tryz.ntmps23
  go_wp2_with fail
  all_goals go_ret
  all_goals exact ⟨by rw [← HR.out _ rfl]; clear HR HS p0 p1 p2 p3 p4 p5 p6 p7 p8 hw1; simp_all <;> first | rfl | omega, HS.out⟩
end Go.Proofs.YtgbbgdjdomkohaaGreat
