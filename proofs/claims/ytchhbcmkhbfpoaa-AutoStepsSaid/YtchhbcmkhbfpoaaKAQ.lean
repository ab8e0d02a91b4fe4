/- Package frame: New, Cap. -/
import Derived.Test.YtchhbcmkhbfpoaaKAP
import Derived.Test.YtchhbcmkhbfpoaaKAE
import Derived.BigRegion
import Derived.StillTail
import Derived.Deep.QuietTactic
import Derived.Still
import Derived.Test.YtchhbcmkhbfpoaaRows
import Derived.Test.YtchhbcmkhbfpoaaKAN
import Derived.Test.YtchhbcmkhbfpoaaKAB
import Derived.Test.YtchhbcmkhbfpoaaKAG
import Derived.StillTailTactics
namespace Go.Proofs.Ytchhbcmkhbfpoaa
open Go.RowKit

def nilC : List Value := [.pointer none, .int .i64 0, .int .u64 0, .bool false]
def nilCells : Nat → List Value
  | 0 => []
  | n + 1 => nilC ++ nilCells n
theorem nilCells_get (n : Nat) : ∀ i, i < n * 4 → (nilCells n)[i]? = nilC[i % 4]? := by
  induction n with
  | zero => intro i hi; omega
  | succ n ih =>
    intro i hi
    unfold nilCells
    by_cases h : i < 4
    · rw [List.getElem?_append_left (by simpa [nilC] using h), Nat.mod_eq_of_lt h]
    · rw [List.getElem?_append_right (by simp [nilC]; omega)]
      have e : i - nilC.length = i - 4 := rfl
      rw [e, ih (i - 4) (by omega)]
      congr 1
      omega
theorem length_nilCells (n : Nat) : (nilCells n).length = n * 4 := by
  induction n with
  | zero => rfl
  | succ n ih => unfold nilCells; rw [List.length_append, ih]; simp [nilC]; omega
theorem made_nil (n : Nat) : madeCells nilC.toArray (n * 4) = (nilCells n).toArray := by
  apply Array.ext
  · simp [size_madeCells, length_nilCells]
  · intro i h1 h2
    rw [size_madeCells] at h1
    have h3 := nilCells_get n i h1
    have h4 : i < (nilCells n).length := by simpa using h2
    rw [List.getElem?_eq_getElem h4] at h3
    have h5 : i % 4 < 4 := Nat.mod_lt _ (by decide)
    simp only [madeCells, Array.getElem_map, Array.getElem_range, List.getElem_toArray]
    have h6 : i % nilC.toArray.size = i % 4 := rfl
    rw [h6, getElem!_pos nilC.toArray (i % 4) (by simpa [nilC] using h5)]
    have h7 : nilC[i % 4]? = some (nilC.toArray[i % 4]'(by simpa [nilC] using h5)) := by rw [List.getElem?_eq_getElem (by simpa [nilC] using h5)]; rfl
    rw [h7] at h3
    injection h3 with h3
    exact h3.symm
theorem frcells_append (a b : List FC) : frcells (a ++ b) = frcells a ++ frcells b := by
  induction a with
  | nil => rfl
  | cons x r ih => simp [frcells, ih]

/-- A stack that is being made: the first frames have their keys. -/
structure MkS (w : World) (own : Nat → Nat) (B s f K D : Nat) (fs : List FC) : Prop where
  sblk : Blk w s 93 #[.slice (some ⟨f, 0, none⟩) D D, .int .i64 0]
  fblk : Blk w f 97 (frcells fs ++ nilCells (D - fs.length)).toArray
  os : own s = 1
  of : own f = 2
  ks : ∀ (i : Nat) (x : FC), fs[i]? = some x → Ks w x.k.g x.k.p x.k.q K x.k.a x.k.b x.k.e ∧ own x.k.g = i + 3 ∧ own x.k.p = i + 3 ∧ own x.k.q = i + 3 ∧ ByteL x.k.a ∧ ByteL x.k.b
  lo : ∀ j, own j ≠ 0 → B ≤ j ∧ j < w.heap.size
  len : fs.length ≤ D
section
variable {w w' : World} {own : Nat → Nat} {B s f K D : Nat} {fs : List FC}
theorem MkS.done (h : MkS w own B s f K D fs) (hl : fs.length = D) (hD : D ≤ 64) : StkR w own s f D K [] := by
  refine ⟨fs, hl, ⟨?_, ?_, h.os, h.of, h.ks, Nat.zero_le _, by omega⟩, fun i y hy => ?_⟩
  · have := h.sblk; rw [← hl] at this; exact this
  · have := h.fblk; rw [hl, Nat.sub_self] at this; simpa [nilCells] using this
  · simp at hy
theorem MkS.on (h : MkS w own B s f K D fs) (hb : Below w.heap.size w w') : MkS w' own B s f K D fs :=
  ⟨h.sblk.on hb, h.fblk.on hb, h.os, h.of, fun i x hx => let ⟨a, b⟩ := h.ks i x hx; ⟨a.on hb, b⟩, fun j hj => ⟨(h.lo j hj).1, Nat.lt_of_lt_of_le (h.lo j hj).2 hb.size⟩, h.len⟩
theorem MkS.cell (h : MkS w own B s f K D fs) (hk : fs.length < D) : w.cell? ⟨f, fs.length * 4, none⟩ = some (.pointer none) := by
  rw [h.fblk.cell, List.getElem?_toArray, List.getElem?_append_right (by rw [length_frcells]; omega), length_frcells, Nat.sub_self, nilCells_get _ 0 (by omega)]
  rfl
/-- One more frame has its keys. -/
theorem MkS.next (h : MkS w own B s f K D fs) (hk : fs.length < D) (hb : Below w.heap.size w w') {g p q : Nat} (hB : B ≤ w.heap.size) (hg : w.heap.size ≤ g) (hp : w.heap.size ≤ p) (hq : w.heap.size ≤ q) (hks : Ks w' g p q K [] [] false) :
    ∃ own', MkS (w'.setCell ⟨f, fs.length * 4, none⟩ (.pointer (some ⟨g, 0, none⟩))) own' B s f K D (fs ++ [⟨0, 0, false, ⟨g, p, q, [], [], false⟩⟩]) := by
  have h1 := h.on hb
  have own0 : ∀ j, w.heap.size ≤ j → own j = 0 := fun j hj => by
    apply Classical.byContradiction
    intro hn
    have := (h.lo j hn).2
    omega
  have hf : f < w.heap.size := h.fblk.lt
  have hs : s < w.heap.size := h.sblk.lt
  have blk : ∀ j, j ≠ f → (w'.setCell ⟨f, fs.length * 4, none⟩ (.pointer (some ⟨g, 0, none⟩))).heap[j]? = w'.heap[j]? := fun j hj => Below.heap_setCell w' _ _ j hj
  refine ⟨fun j => if j = g ∨ j = p ∨ j = q then fs.length + 3 else own j, ?_⟩
  have old : ∀ j, j < w.heap.size → (if j = g ∨ j = p ∨ j = q then fs.length + 3 else own j) = own j := fun j hj => by rw [if_neg (by omega)]
  refine ⟨(blk s (fun e => by have := h.os; have := h.of; rw [e] at *; omega)).trans h1.sblk, ?_, by rw [old s hs]; exact h.os, by rw [old f hf]; exact h.of, fun i x hx => ?_, fun j hj => ?_, by simp; omega⟩
  · have := h1.fblk.put (fs.length * 4) (.pointer (some ⟨g, 0, none⟩))
    rw [List.setIfInBounds_toArray, List.set_append, if_neg (by rw [length_frcells]; omega), length_frcells, Nat.sub_self, show D - fs.length = (D - (fs.length + 1)) + 1 by omega] at this
    rw [frcells_append, List.length_append, List.length_singleton, List.append_assoc]
    exact this
  · rcases Nat.lt_or_ge i fs.length with hi | hi
    · rw [List.getElem?_append_left hi] at hx
      obtain ⟨a1, a2, a3, a4, a5⟩ := h1.ks i x hx
      have b2 := (h.lo x.k.g (by omega)).2
      have b3 := (h.lo x.k.p (by omega)).2
      have b4 := (h.lo x.k.q (by omega)).2
      have ne : ∀ j, own j = i + 3 → j ≠ f := fun j hj e => by have := h.of; rw [e] at hj; omega
      exact ⟨a1.keep (by simp [World.setCell]) (blk _ (ne _ a2)) (blk _ (ne _ a3)) (blk _ (ne _ a4)), by rw [old _ b2]; exact a2, by rw [old _ b3]; exact a3, by rw [old _ b4]; exact a4, a5⟩
    · rw [List.getElem?_append_right hi] at hx
      have hi' := lt_of_get hx
      simp only [List.length_singleton] at hi'
      obtain rfl : i = fs.length := by omega
      rw [Nat.sub_self] at hx
      injection hx with hx
      subst hx
      exact ⟨hks.keep (by simp [World.setCell]) (blk _ (by omega)) (blk _ (by omega)) (blk _ (by omega)), by simp, by simp, by simp, fun y hy => (by cases hy), fun y hy => by cases hy⟩
  · have hsz := hb.size
    have : (w'.setCell ⟨f, fs.length * 4, none⟩ (.pointer (some ⟨g, 0, none⟩))).heap.size = w'.heap.size := by simp [World.setCell]
    rw [this]
    by_cases e : j = g ∨ j = p ∨ j = q
    · rcases e with rfl | rfl | rfl
      · exact ⟨by omega, hks.blk.lt⟩
      · exact ⟨by omega, hks.lp⟩
      · exact ⟨by omega, hks.lq⟩
    · rw [if_neg e] at hj
      have := h.lo j hj
      exact ⟨this.1, by omega⟩
end
theorem frameInfo : (Try.prog.info? 97).map (fun i => (i.zero, i.size, i.bytes)) = some (some (.agg nilC.toArray), 4, 32) := by kernel_rfl

set_option maxRecDepth 100000 in
set_option maxHeartbeats 1000000 in
theorem frame_New (w : World) (D K : Nat) (h1 : 1 ≤ D) (h2 : D ≤ 64) (k1 : 1 ≤ K) (k2 : K ≤ 1024) :
    Calls Try.prog 23 #[.int .i64 D, .int .i64 K] w fun e w' => ∃ own s f, e = .returned (.pointer (some ⟨s, 0, none⟩)) ∧ StkR w' own s f D K [] ∧ (∀ j, own j ≠ 0 → w.heap.size ≤ j ∧ j < w'.heap.size) ∧ Below w.heap.size w w' := by
  obtain ⟨i0, hi0, hz0, hz1, hz2⟩ := info_parts frameInfo
  have hmk0 := run_make (P := Try.prog) w 91 97 i0 (.agg nilC.toArray) Try.underlying91 hi0 hz0 .i64 .i64 D D (by omega) (by omega) (by rw [hz2]; omega) (by omega)
  have hcl : (Value.agg nilC.toArray).cells = nilC.toArray := rfl
  rw [Int.toNat_natCast, hz1, hcl, made_nil] at hmk0
  have a0 := below_alloc w (.cells (nilCells D).toArray 97)
  have b0 : Blk (w.alloc (.cells (nilCells D).toArray 97)) w.heap.size 97 (nilCells D).toArray := Blk.fresh _ _ _
  have hsz0 : (w.alloc (.cells (nilCells D).toArray 97)).heap.size = w.heap.size + 1 := by simp
  obtain ⟨w1, hw1⟩ : ∃ w1, w.alloc (.cells (nilCells D).toArray 97) = w1 := ⟨_, rfl⟩
  rw [hw1] at hmk0 a0 b0 hsz0
  have b1 : Blk (w1.alloc (.cells #[.slice (some ⟨w.heap.size, 0, none⟩) D D, .int .i64 0] 93)) w1.heap.size 93 #[.slice (some ⟨w.heap.size, 0, none⟩) D D, .int .i64 0] := Blk.fresh _ _ _
  have a1 := a0.trans ((below_alloc w1 (.cells #[.slice (some ⟨w.heap.size, 0, none⟩) D D, .int .i64 0] 93)).mono a0.size)
  have c1 := b0.alloc (.cells #[.slice (some ⟨w.heap.size, 0, none⟩) D D, .int .i64 0] 93)
  have hsz1 : (w1.alloc (.cells #[.slice (some ⟨w.heap.size, 0, none⟩) D D, .int .i64 0] 93)).heap.size = w.heap.size + 2 := by simp [hsz0]
  rw [hsz0] at b1
  have hM : Hid (MkS (w1.alloc (.cells #[.slice (some ⟨w.heap.size, 0, none⟩) D D, .int .i64 0] 93)) (fun j => if j = w.heap.size + 1 then 1 else if j = w.heap.size then 2 else 0) w.heap.size (w.heap.size + 1) w.heap.size K D []) := by
    refine ⟨b1, ?_, by simp, by simp, fun i x hx => (by simp at hx), fun j hj => ?_, Nat.zero_le _⟩
    · simpa [frcells] using c1
    · rw [hsz1]
      by_cases e1 : j = w.heap.size + 1
      · omega
      · rw [if_neg e1] at hj
        by_cases e2 : j = w.heap.size
        · omega
        · rw [if_neg e2] at hj; exact absurd rfl hj
  have HA := Lib.hid a1
  obtain ⟨cell0, cell1⟩ : (w1.alloc (.cells #[.slice (some ⟨w.heap.size, 0, none⟩) D D, .int .i64 0] 93)).cell? ⟨w.heap.size + 1, 0, none⟩ = some (.slice (some ⟨w.heap.size, 0, none⟩) D D) ∧ True := ⟨b1.cell 0, trivial⟩
  have hws : w1.heap.size = w.heap.size + 1 := hsz0
  have hDi : (1 : Int) ≤ D := by omega
  have hDj : (D : Int) ≤ 64 := by omega
  clear b1 c1 a1 a0 b0 hsz0 hsz1 hi0 hz0 hz1 hz2 cell1 hcl hw1
  go_enter Try.func23, Try.ntmps23
  go_wp2_with fail
  generalize w1.alloc (.cells #[.slice (some ⟨w.heap.size, 0, none⟩) D D, .int .i64 0] 93) = w2 at *
  clear cell0 hws hmk0
  go_loopw [18] (fun i wr => ∃ (k : Nat) (own : Nat → Nat) (fs : List FC), k ≤ D ∧ i = .int .i64 k ∧ fs.length = k ∧ MkS wr own w.heap.size (w.heap.size + 1) w.heap.size K D fs ∧ Below w.heap.size w wr) (fun i _ => D - (intOf i).toNat)
  case atStart => exact ⟨0, _, [], Nat.zero_le _, rfl, rfl, hM.out, HA.out⟩
  case round =>
    obtain ⟨k, own, fs, hk, rfl, hfl, hMk, hB⟩ := hrel
    by_cases hlt : k < D
    · have hltI : (k : Int) < D := by omega
      have HN := Lib.hid (fun v => order_New v (K : Int) K (by omega))
      have HD := Lib.hid (show Below wr.heap.size wr wr.drew from below_drawn (Below.refl _ _))
      have ccs : wr.cell? ⟨w.heap.size + 1, 0, none⟩ = some (.slice (some ⟨w.heap.size, 0, none⟩) D D) := hMk.sblk.cell 0
      have RI := fun v => run_frame v w.heap.size D D k (k : Int) rfl hlt
      have HC : Hid (∀ w5, Below wr.heap.size wr w5 → w5.cell? ⟨w.heap.size + 1, 0, none⟩ = some (.slice (some ⟨w.heap.size, 0, none⟩) D D) ∧ w5.frozen? ⟨w.heap.size, k * 4, none⟩ = false ∧ w5.cell? ⟨w.heap.size, k * 4, none⟩ = some (.pointer none)) := fun w5 hb => by
        have h5 := hMk.on hb
        exact ⟨h5.sblk.cell 0, h5.fblk.free _, by have := h5.cell (by omega); rwa [hfl] at this⟩
      have HX : Hid (∀ w5 g p q, Below wr.heap.size wr w5 → wr.heap.size ≤ g → wr.heap.size ≤ p → wr.heap.size ≤ q → Ks w5 g p q K [] [] false → (∃ own' fs', fs'.length = k + 1 ∧ MkS (w5.setCell ⟨w.heap.size, k * 4, none⟩ (.pointer (some ⟨g, 0, none⟩))) own' w.heap.size (w.heap.size + 1) w.heap.size K D fs') ∧ Below w.heap.size w (w5.setCell ⟨w.heap.size, k * 4, none⟩ (.pointer (some ⟨g, 0, none⟩)))) := fun w5 g p q hb hg hp hq hks => by
        obtain ⟨own', hm⟩ := hMk.next (by omega) hb hB.size hg hp hq hks
        rw [hfl] at hm
        exact ⟨⟨own', _, by simp [hfl], hm⟩, (hB.trans (hb.mono hB.size)).setCell (Nat.le_refl _) _⟩
      have hfol : Try.prog.follows Departure.mixedOrders = true := by kernel_rfl
      clear hMk hB hM HA hlt hk
      generalize k * 4 = u at *
      generalize w.heap.size = B at *
      go_wp2_with fail
      go_region_with (go_at_call 34; refine (HN.out _).mono ?_; rintro e w5 ⟨g, p, q, rfl, hg, hp, hq, hks, hb⟩; have hb5 := HD.out.trans hb; obtain ⟨q0, q1, q2⟩ := HC.out w5 hb5; have HY := Lib.hid (HX.out w5 g p q hb5 hg hp hq hks); clear hg hp hq hks hb hb5)
      all_goals
        go_wp2_with fail
        go_roundw
        case rel =>
          obtain ⟨⟨own', fs', y1, y2⟩, y3⟩ := HY.out
          exact ⟨k + 1, own', fs', by omega, by go_num, y1, y2, y3⟩
        case measure => simp [intOf]; omega
    · have hkD : k = D := by omega
      subst hkD
      have hltI : ¬ (k : Int) < k := by omega
      have HE := Lib.hid (hMk.done hfl h2)
      have HO := Lib.hid hMk.lo
      have HB := Lib.hid hB
      clear hMk hB hM HA
      go_wp2_with fail
      go_ret
      exact ⟨own, _, rfl, ⟨_, HE.out⟩, HO.out, HB.out⟩

set_option maxRecDepth 100000 in
theorem frame_Cap (w : World) (own : Nat → Nat) (s f D K : Nat) (h : StkW w own s f D K) :
    Calls Try.prog 26 #[.pointer (some ⟨s, 0, none⟩)] w fun e w' => e = .returned (.int .i64 (D * (2 * K))) ∧ w' = w := by
  obtain ⟨fs, n, hD, hS⟩ := h
  have c0 := hS.cells.1
  rw [hD] at c0
  have hl := hS.hl
  have HS := Lib.hid hS
  rw [hD] at hl
  have HD := Lib.hid hD
  clear hS hD
  go_enter Try.func26, Try.ntmps26
  go_wp2_with fail
  go_loop [3, 12] (fun v i => ∃ k : Nat, k ≤ D ∧ i = .int .i64 k ∧ v = .int .i64 (k * (2 * K))) (fun _ i => D - (intOf i).toNat)
  case atStart => exact ⟨0, by omega, rfl, by simp⟩
  case round =>
    obtain ⟨k, hk, rfl, rfl⟩ := hrel
    by_cases hlt : k < D
    · have hltI : (k : Int) < D := by omega
      obtain ⟨x, hx⟩ : ∃ x, fs[k]? = some x := ⟨_, List.getElem?_eq_getElem (by have := HD.out; omega)⟩
      have hks := (HS.out.ks k x hx).1
      have HCp := Lib.hid (order_Cap w _ _ _ _ _ _ _ hks)
      have d0 := (HS.out.fcell hx).1
      have hK := hks.lem
      have RI := fun v => run_frame v f D D k (k : Int) rfl hlt
      have e1 : (k : Int) * (2 * (K : Int)) + 2 * (K : Int) = ((k + 1 : Nat) : Int) * (2 * (K : Int)) := by rw [Int.natCast_add, Int.add_mul]; omega
      have e2 : (0 : Int) ≤ (k : Int) * (2 * (K : Int)) := Int.mul_nonneg (by omega) (by omega)
      have e3 : (k : Int) * (2 * (K : Int)) ≤ 64 * (2 * 1024) := Int.mul_le_mul (by omega) (by omega) (by omega) (by omega)
      have E1 := Lib.hid e1
      have e4 : (0 : Int) ≤ 2 * (K : Int) := by omega
      have e5 : 2 * (K : Int) ≤ 2048 := by omega
      clear hks hx e1
      generalize x.k.g = g at *
      generalize k * 4 = u at *
      generalize hP : (k : Int) * (2 * (K : Int)) = P at *
      generalize 2 * (K : Int) = Q at *
      have HPP := Lib.hid hP
      clear hP hK
      go_wp2_with fail
      refine HCp.out.mono ?_
      rintro e w' ⟨rfl, rfl⟩
      go_wp2_with fail
      go_round
      case rel => exact ⟨k + 1, by omega, by go_num, by rw [← E1.out]⟩
      case measure => simp [intOf]; omega
    · have hkD : k = D := by omega
      subst hkD
      have hltI : ¬ (k : Int) < k := by omega
      clear HS
      go_wp2_with fail
      go_ret
      exact ⟨rfl, rfl⟩
end Go.Proofs.Ytchhbcmkhbfpoaa

/- A region that draws its order: first operations that only read, and calls that only read and draw, in any order; then the others, one by one. One walk in the order of the text serves every order. -/
namespace Go.Proofs.Ytchhbcmkhbfpoaa
open Go

section
variable {P : Program} {ops : Array Oper} {md : Region.Mode} {C : World → Prop}

/-- f operations come up, all ahead of number n, whatever their order; then L holds. -/
def headQ (P : Program) (md : Region.Mode) (ops : Array Oper) (C : World → Prop) (n : Nat) (L : Array Bool → Act → Prop) : Nat → Array Bool → Act → Prop
  | 0, seen, a => L seen a
  | f + 1, seen, a => Region.ready md ops seen ≠ [] ∧ ∀ i, i ∈ Region.ready md ops seen → i < n ∧ qOp P ops C i (fun b => headQ P md ops C n L f (seen.setIfInBounds i true) b) a

theorem any_of_headQ {n g : Nat} {L : Array Bool → Act → Prop} {R : Exit → Act → World → Prop} (hL : ∀ seen a w, C w → L seen a → wpAny P md ops R g seen a w) (f : Nat) :
    ∀ (seen : Array Bool) (a : Act) (w : World), C w → headQ P md ops C n L f seen a → wpAny P md ops R (f + g) seen a w := by
  induction f with
  | zero => intro seen a w hw h; rw [Nat.zero_add]; exact hL _ _ _ hw h
  | succ f ih =>
    intro seen a w hw h
    rw [Nat.add_right_comm]
    refine ⟨fun e => (h.1 e).elim, fun i hi => ?_⟩
    exact wpOp_of_qOp hw (fun b w' hw' hb => ih _ b w' hw' hb) (h.2 i hi).2

/-- The next operation of the text may come first. -/
theorem headQ_first {n i : Nat} {oi : Oper} {v : Value} {L : Array Bool → Act → Prop} (hi : ops[i]? = some oi) (hsel : ∀ (j : Nat) (o : Oper) cs b, ops[j]? = some o → o.op ≠ .select cs b)
    (hs : Region.sinkB md ops n = true) (hc : Region.chainB md ops n = true) (hn : n < ops.size) (hin : i < n) (hend : ∀ seen a, L seen a → ∀ j, j ∈ Region.ready md ops seen → n ≤ j) (f : Nat) :
    ∀ (seen : Array Bool) (a : Act), HeadInv md ops n seen → (∀ j oj, ops[j]? = some oj → j ≠ i → seen.getD j true = false → (∀ e ∈ oj.after, Region.binds md e = true → e.on ≠ i) → oi.apart ops oj = true) →
      i ∈ Region.ready md ops seen → YieldsIn P ops C oi v a → headQ P md ops C n L f (seen.setIfInBounds i true) (a.put oi.dst v) → headQ P md ops C n L (f + 1) seen a := by
  induction f with
  | zero =>
    intro seen a inv _ hr hy H
    refine ⟨List.ne_nil_of_mem hr, fun j hj => ?_⟩
    have hjn : j < n := Nat.lt_of_not_le fun hle => tail_waits hs hc hn inv _ i rfl hin (mem_ready.1 hr).1 j hle hj
    refine ⟨hjn, ?_⟩
    rcases Decidable.em (j = i) with e | e
    · rw [e]; exact hy.qOp hi H
    · exact absurd (hend _ _ H j (ready_mono hj e)) (Nat.not_le_of_lt hjn)
  | succ f ih =>
    intro seen a inv hfree hr hy H
    have hun := (mem_ready.1 hr).1
    refine ⟨List.ne_nil_of_mem hr, fun j hj => ?_⟩
    have hjn : j < n := Nat.lt_of_not_le fun hle => tail_waits hs hc hn inv _ i rfl hin hun j hle hj
    refine ⟨hjn, ?_⟩
    rcases Decidable.em (j = i) with e | e
    · rw [e]; exact hy.qOp hi H
    obtain ⟨hju, oj, hoj, hall⟩ := mem_ready.1 hj
    have hno : ∀ x ∈ oj.after, Region.binds md x = true → x.on ≠ i := fun x hx hb he => by
      have := hall x hx hb
      rw [he, getD_both hun] at this
      exact Bool.noConfusion this
    have h1 := (H.2 j (ready_mono hj e)).2
    have h2 := qOp_put hoj (hfree j oj hoj e hju hno) (fun cs b => hsel i oi cs b hi) (fun cs b => hsel j oj cs b hoj) hy h1
    refine qOp_mono (fun b hb => ?_) h2
    refine ih _ b (inv.set hj hjn) (fun k ok hk hki hku hkn => ?_) (ready_mono hr (Ne.symm e)) hb.1 ?_
    · refine hfree k ok hk hki ?_ hkn
      rcases Decidable.em (j = k) with ejk | ejk
      · rw [← ejk]; exact hju
      · rwa [getD_set_ne true ejk] at hku
    · rw [Array.setIfInBounds_comm _ _ e]
      exact hb.2

theorem headQ_lex {n g : Nat} {K : Act → Prop} (hsel : Region.noSelect ops = true) (hs : Region.sinkB md ops n = true) (hc : Region.chainB md ops n = true) (hn : n < ops.size) (l : List Oper) :
    ∀ (k : Nat) (seen : Array Bool) (a : Act), (∀ j, j < l.length → l[j]? = ops[k + j]?) → k + l.length = n → HeadInv md ops n seen → Region.lexHead md ops g l.length k seen = true → wpQuiet P ops C K l a →
      headQ P md ops C n (fun s b => Region.seqB md ops g n s = true ∧ K b) l.length seen a := by
  induction l with
  | nil =>
    intro k seen a _ hk _ hB h
    obtain rfl : k = n := hk
    exact ⟨hB, h⟩
  | cons o l ih =>
    intro k seen a hl hk inv hB h
    have h0 : ops[k]? = some o := (hl 0 (Nat.succ_pos _)).symm
    rw [List.length_cons] at hk
    simp only [List.length_cons, Region.lexHead, Bool.and_eq_true, List.contains_iff_mem] at hB
    have hkn : k < n := by omega
    have hq : qOp P ops C k (wpQuiet P ops C K l) a := by unfold qOp; rw [h0]; exact h
    obtain ⟨v, hy, hK⟩ := yieldsIn_of_qOp h0 hq
    refine headQ_first h0 (Region.noSelect_spec hsel) hs hc hn hkn (fun s b hL => seqB_ready hL.1) l.length seen a inv (Region.free_spec h0 hB.1.2) hB.1.1 hy ?_
    refine ih (k + 1) _ _ (fun j hj => ?_) (by omega) (inv.set hB.1.1 hkn) hB.2 hK
    have := hl (j + 1) (by simpa using hj)
    rw [show k + 1 + j = k + (j + 1) by omega, ← this]
    rfl

/-- The region: its first n operations quiet, the others behind them in the order of the text. -/
theorem wp_region_quiet_tail {id : Nat} {Q : Exit → Act → World → Prop} {a : Act} {w : World} {l : List Oper} (n : Nat) (hm : P.follows .mixedOrders = true) (hB : Region.lexTailB .any l.toArray n = true)
    (h : wpQuiet P l.toArray (fun w' => ∃ d, w' = w.drewN d) (fun b => ∀ w', (∃ d, w' = w.drewN d) → wpList P l.toArray Q (l.drop n) b w') (l.take n) a) : (Code.region id l.toArray true).wp P Q a w := by
  simp only [Region.lexTailB, Bool.and_eq_true, decide_eq_true_eq] at hB
  obtain ⟨⟨⟨⟨hsel, hn⟩, hs⟩, hc⟩, hlex⟩ := hB
  have hn' : n < l.length := hn
  have htl : (l.take n).length = n := by rw [List.length_take]; omega
  have hsz : l.toArray.size - n = (l.drop n).length := by rw [List.length_drop]; rfl
  rw [hsz] at hlex
  have inv0 : HeadInv .any l.toArray n (Array.replicate l.toArray.size false) :=
    ⟨Array.size_replicate, fun j _ _ hj => (by rw [getD_replicate_false] at hj; exact Bool.noConfusion hj), fun t _ ht => getD_in (by rw [Array.size_replicate]; exact ht) (getD_replicate_false _ _)⟩
  have H := headQ_lex (md := .any) hsel hs hc hn (l.take n) 0 _ a (fun j hj => by rw [htl] at hj; simp [hj]) (by omega) inv0 (by rw [htl]; exact hlex) h
  have H2 := any_of_headQ (R := Q) (g := (l.drop n).length) (fun s b w' hw' hL => wpAny_of_seq (l.drop n) n s b w' (fun j => by simp [List.getElem?_drop]) hL.1 (hL.2 w' hw')) _ _ _ { w with drawn := w.drawn + 1 } ⟨1, rfl⟩ H
  refine wp_region_any hm ?_
  rw [htl, ← hsz, show n + (l.toArray.size - n) = l.toArray.size by have : l.toArray.size = l.length := rfl; omega] at H2
  exact H2
end
end Go.Proofs.Ytchhbcmkhbfpoaa

/- Package head: small functions. -/
namespace Go.Proofs.Ytchhbcmkhbfpoaa
open Go.RowKit

def LW (a W : Int) : Prop := W = 1 ∨ (W = 2 ∧ 256 ≤ a) ∨ (W = 4 ∧ 65536 ≤ a) ∨ (W = 8 ∧ 4294967296 ≤ a)
theorem head_least (a : Int) (h0 : 0 ≤ a) (h1 : a < 18446744073709551616) (w : World) :
    Calls Try.prog 81 #[.int .u64 a] w fun e w' => e = .returned (.int .i64 (leastW a)) ∧ w = w' := by
  by_cases h24 : a < 24
  · have e : leastW a = 0 := by unfold leastW; rw [if_pos h24]
    rw [e]
    clear e
    go_enter Try.func81, Try.ntmps81
    go_wp2
    go_ret
    exact ⟨rfl, rfl⟩
  · have HL : Hid (∀ W, LW a W → (W = 1 → a < 256) → (W = 2 → a < 65536) → (W = 4 → a < 4294967296) → W = leastW a) := by
      intro W hW h1 h2 h4
      unfold leastW
      rcases hW with rfl | ⟨rfl, _⟩ | ⟨rfl, _⟩ | ⟨rfl, _⟩ <;> (repeat' split) <;> omega
    go_enter Try.func81, Try.ntmps81
    go_wp2
    go_loop [3] (fun y => ∃ W : Int, y = .int .i64 W ∧ LW a W) (fun y => 8 - (intOf y).toNat)
    case atStart => exact ⟨1, rfl, Or.inl rfl⟩
    case round =>
      obtain ⟨W, rfl, hW⟩ := hrel
      have HW := Lib.hid hW
      rcases hW with rfl | ⟨rfl, hb⟩ | ⟨rfl, hb⟩ | ⟨rfl, hb⟩
      · by_cases hq : a / 256 = 0
        · go_wp2
          go_ret
          exact ⟨ret_num (HL.out _ HW.out (by omega) (by omega) (by omega)), rfl⟩
        · have hq' : (a / 256 == 0) = false := by simp [hq]
          go_wp2
          go_round
          case rel => exact ⟨2, rfl, Or.inr (Or.inl ⟨rfl, by omega⟩)⟩
          case measure => simp [intOf]
      · by_cases hq : a / 65536 = 0
        · go_wp2
          go_ret
          exact ⟨ret_num (HL.out _ HW.out (by omega) (by omega) (by omega)), rfl⟩
        · go_wp2
          go_round
          case rel => exact ⟨4, rfl, Or.inr (Or.inr (Or.inl ⟨rfl, by omega⟩))⟩
          case measure => simp [intOf]
      · by_cases hq : a / 4294967296 = 0
        · go_wp2
          go_ret
          exact ⟨ret_num (HL.out _ HW.out (by omega) (by omega) (by omega)), rfl⟩
        · go_wp2
          go_round
          case rel => exact ⟨8, rfl, Or.inr (Or.inr (Or.inr ⟨rfl, by omega⟩))⟩
          case measure => simp [intOf]
      · go_wp2
        go_ret
        exact ⟨ret_num (HL.out _ HW.out (by omega) (by omega) (by omega)), rfl⟩

theorem hblk {w : World} {g : Nat} {t : TypeId} {m W a l e : Int} {o : Bool} (h : Blk w g t (hcells ⟨m, W, a, l, o, e⟩)) :
    w.cell? ⟨g, 0, none⟩ = some (.int .i64 m) ∧ w.cell? ⟨g, 1, none⟩ = some (.int .i64 W) ∧ w.cell? ⟨g, 2, none⟩ = some (.int .u64 a) ∧ w.cell? ⟨g, 3, none⟩ = some (.int .i64 l) ∧ w.cell? ⟨g, 4, none⟩ = some (.bool o) ∧ w.cell? ⟨g, 5, none⟩ = some (.int .i64 e) ∧ (∀ i, w.frozen? ⟨g, i, none⟩ = false) :=
  ⟨h.cell 0, h.cell 1, h.cell 2, h.cell 3, h.cell 4, h.cell 5, h.free⟩
theorem hcells_one (q : HQ) : (hcells q).all (·.oneCell') = true := by
  rw [Array.all_eq_true_iff_forall_mem]
  intro x hx
  simp [hcells] at hx
  rcases hx with rfl | rfl | rfl | rfl | rfl | rfl <;> rfl
theorem hblk_put {w : World} {g : Nat} {t : TypeId} {q : HQ} (h : Blk w g t (hcells q)) (m W a l : Int) (o : Bool) (e : Int) :
    Blk ((((((w.setCell ⟨g, 0, none⟩ (.int .i64 m)).setCell ⟨g, 1, none⟩ (.int .i64 W)).setCell ⟨g, 2, none⟩ (.int .u64 a)).setCell ⟨g, 3, none⟩ (.int .i64 l)).setCell ⟨g, 4, none⟩ (.bool o)).setCell ⟨g, 5, none⟩ (.int .i64 e)) g t (hcells ⟨m, W, a, l, o, e⟩) :=
  (((((h.put 0 (.int .i64 m)).put 1 (.int .i64 W)).put 2 (.int .u64 a)).put 3 (.int .i64 l)).put 4 (.bool o)).put 5 (.int .i64 e)
theorem honly_put (g : Nat) (w : World) (x0 x1 x2 x3 x4 x5 : Value) :
    Only g w ((((((w.setCell ⟨g, 0, none⟩ x0).setCell ⟨g, 1, none⟩ x1).setCell ⟨g, 2, none⟩ x2).setCell ⟨g, 3, none⟩ x3).setCell ⟨g, 4, none⟩ x4).setCell ⟨g, 5, none⟩ x5) :=
  ((((((Only.refl g w).put 0 _).put 1 _).put 2 _).put 3 _).put 4 _).put 5 _
theorem and31 (c : Int) (h0 : 0 ≤ c) (h1 : c < 256) : bits .and .u8 c 31 = c % 32 := by
  obtain ⟨n, rfl⟩ := Int.eq_ofNat_of_zero_le h0
  have h : ∀ k : Fin 256, bits .and .u8 (k.val : Int) 31 = (k.val : Int) % 32 := by decide +kernel
  exact h ⟨n, by omega⟩
set_option maxRecDepth 100000 in
set_option maxHeartbeats 4000000 in
theorem head_beg (c m i : Int) (hm : c / 32 = m) (HA : bits .and .u8 c 31 = i) (hm0 : 0 ≤ m) (hm7 : m ≤ 7) (hi0 : 0 ≤ i) (hi1 : i < 32) (q : HQ) (w : World) (g : Nat) (hg : Blk w g 69 (hcells q)) :
    Calls Try.prog 67 #[.pointer (some ⟨g, 0, none⟩), .int .u8 c] w fun e w' => e = .returned (.tuple #[]) ∧ Blk w' g 69 (hcells (hbeg m i)) ∧ Only g w w' := by
  have HS := Lib.hid (run_store_all (P := Try.prog) (ty := 69) (c' := hcells ⟨m, 0, 0, 0, true, 0⟩) hg (by kernel_rfl) rfl (hcells_one _))
  have B1 := hg.setRow (hcells ⟨m, 0, 0, 0, true, 0⟩)
  have O1 := Lib.hid ((Only.refl g w).setRow (hcells ⟨m, 0, 0, 0, true, 0⟩))
  generalize w.setRow g (hcells ⟨m, 0, 0, 0, true, 0⟩) = w1 at *
  obtain ⟨c0, c1, c2, c3, c4, c5, fz⟩ := hblk B1
  have f1 := fz 1
  have f2 := fz 2
  have f3 := fz 3
  have f5 := fz 5
  have HB1 := Lib.hid B1
  clear fz hg B1
  by_cases hs : i < 24
  · have e1 : hbeg m i = ⟨m, 0, i, 0, true, 0⟩ := by unfold hbeg; rw [if_neg (by omega), if_pos hs]
    rw [e1]
    clear e1
    go_enter Try.func67, Try.ntmps67
    go_wp2_with ((with_reducible refine is_store 69 rfl ?_); (with_reducible refine wpList_store_run rfl rfl HS.out ?_ ?_ ?_); (· rfl); (· rfl))
    go_end0
    exact ⟨rfl, HB1.out.put 2 (.int .u64 i), O1.out.put 2 _⟩
  by_cases h28 : 28 ≤ i
  · by_cases h31 : i = 31
    · subst h31
      by_cases hm25 : 2 ≤ m ∧ m ≤ 5
      · have e1 : hbeg m 31 = ⟨m, 0, 0, 0, true, 5⟩ := by unfold hbeg hbad; rw [if_pos (by decide), if_neg (by decide), if_pos ⟨rfl, hm25⟩]
        obtain ⟨hm2, hm5⟩ := hm25
        rw [e1]
        clear e1
        go_enter Try.func67, Try.ntmps67
        go_wp2_with ((with_reducible refine is_store 69 rfl ?_); (with_reducible refine wpList_store_run rfl rfl HS.out ?_ ?_ ?_); (· rfl); (· rfl))
        (try simp only [Exit.inBlock, Exit.then])
        refine bodyPost_ret (results_none rfl _ _ _) rfl ?_
        exact ⟨rfl, HB1.out.put 5 (.int .i64 5), O1.out.put 5 _⟩
      · have e1 : hbeg m 31 = ⟨m, 0, 0, 0, true, 2⟩ := by unfold hbeg hbad; rw [if_pos (by decide), if_neg (by decide), if_neg (fun h => hm25 h.2)]
        rw [e1]
        clear e1
        by_cases hm2 : 2 ≤ m
        · have hm5 : ¬ m ≤ 5 := fun h => hm25 ⟨hm2, h⟩
          clear hm25
          go_enter Try.func67, Try.ntmps67
          go_wp2_with ((with_reducible refine is_store 69 rfl ?_); (with_reducible refine wpList_store_run rfl rfl HS.out ?_ ?_ ?_); (· rfl); (· rfl))
          go_end0
          exact ⟨rfl, HB1.out.put 5 (.int .i64 2), O1.out.put 5 _⟩
        · clear hm25
          go_enter Try.func67, Try.ntmps67
          go_wp2_with ((with_reducible refine is_store 69 rfl ?_); (with_reducible refine wpList_store_run rfl rfl HS.out ?_ ?_ ?_); (· rfl); (· rfl))
          go_end0
          exact ⟨rfl, HB1.out.put 5 (.int .i64 2), O1.out.put 5 _⟩
    · have e1 : hbeg m i = ⟨m, 0, 0, 0, true, 2⟩ := by unfold hbeg hbad; rw [if_pos h28, if_neg (by omega), if_neg (fun h => h31 h.1)]
      rw [e1]
      clear e1
      have h3 : i = 28 ∨ i = 29 ∨ i = 30 := by omega
      clear h28 h31 hs
      rcases h3 with rfl | rfl | rfl
      all_goals
        go_enter Try.func67, Try.ntmps67
        go_wp2_with ((with_reducible refine is_store 69 rfl ?_); (with_reducible refine wpList_store_run rfl rfl HS.out ?_ ?_ ?_); (· rfl); (· rfl))
        go_end0
        exact ⟨rfl, HB1.out.put 5 (.int .i64 2), O1.out.put 5 _⟩
  · rcases hwid_of i (by omega) (by omega) with ⟨rfl, hw⟩ | ⟨rfl, hw⟩ | ⟨rfl, hw⟩ | ⟨rfl, hw⟩
    · have e1 : hbeg m 24 = ⟨m, 1, 0, 1, true, 0⟩ := rfl
      rw [e1]
      clear e1 hw hs h28
      go_enter Try.func67, Try.ntmps67
      go_wp2_with ((with_reducible refine is_store 69 rfl ?_); (with_reducible refine wpList_store_run rfl rfl HS.out ?_ ?_ ?_); (· rfl); (· rfl))
      go_end0
      exact ⟨rfl, (HB1.out.put 1 (.int .i64 1)).put 3 (.int .i64 1), (O1.out.put 1 _).put 3 _⟩
    · have e1 : hbeg m 25 = ⟨m, 2, 0, 2, true, 0⟩ := rfl
      rw [e1]
      clear e1 hw hs h28
      go_enter Try.func67, Try.ntmps67
      go_wp2_with ((with_reducible refine is_store 69 rfl ?_); (with_reducible refine wpList_store_run rfl rfl HS.out ?_ ?_ ?_); (· rfl); (· rfl))
      go_end0
      exact ⟨rfl, (HB1.out.put 1 (.int .i64 2)).put 3 (.int .i64 2), (O1.out.put 1 _).put 3 _⟩
    · have e1 : hbeg m 26 = ⟨m, 4, 0, 4, true, 0⟩ := rfl
      rw [e1]
      clear e1 hw hs h28
      go_enter Try.func67, Try.ntmps67
      go_wp2_with ((with_reducible refine is_store 69 rfl ?_); (with_reducible refine wpList_store_run rfl rfl HS.out ?_ ?_ ?_); (· rfl); (· rfl))
      go_end0
      exact ⟨rfl, (HB1.out.put 1 (.int .i64 4)).put 3 (.int .i64 4), (O1.out.put 1 _).put 3 _⟩
    · have e1 : hbeg m 27 = ⟨m, 8, 0, 8, true, 0⟩ := rfl
      rw [e1]
      clear e1 hw hs h28
      go_enter Try.func67, Try.ntmps67
      go_wp2_with ((with_reducible refine is_store 69 rfl ?_); (with_reducible refine wpList_store_run rfl rfl HS.out ?_ ?_ ?_); (· rfl); (· rfl))
      go_end0
      exact ⟨rfl, (HB1.out.put 1 (.int .i64 8)).put 3 (.int .i64 8), (O1.out.put 1 _).put 3 _⟩
theorem head_begin (c : Int) (h0 : 0 ≤ c) (h1 : c < 256) (q : HQ) (w : World) (g : Nat) (hg : Blk w g 69 (hcells q)) :
    Calls Try.prog 67 #[.pointer (some ⟨g, 0, none⟩), .int .u8 c] w fun e w' => e = .returned (.tuple #[]) ∧ Blk w' g 69 (hcells (hbegin c)) ∧ Only g w w' :=
  head_beg c (c / 32) (c % 32) rfl (and31 c h0 h1) (by omega) (by omega) (by omega) (by omega) q w g hg

set_option maxHeartbeats 1000000 in
theorem head_follow (c : Int) (h0 : 0 ≤ c) (h1 : c < 256) (q : HQ) (hok : HOk q) (hl : 0 < q.left) (w : World) (g : Nat) (hg : Blk w g 69 (hcells q)) :
    Calls Try.prog 66 #[.pointer (some ⟨g, 0, none⟩), .int .u8 c] w fun e w' => e = .returned (.tuple #[]) ∧ Blk w' g 69 (hcells (hfollow q c)) ∧ Only g w w' := by
  obtain ⟨m, W, a, l, o, e⟩ := q
  obtain ⟨ha0, ha1, hl0, hl8⟩ := hok
  dsimp only at ha0 ha1 hl0 hl8 hl
  obtain ⟨c0, c1, c2, c3, c4, c5, fz⟩ := hblk hg
  have f2 := fz 2
  have f3 := fz 3
  have f5 := fz 5
  clear fz
  have HO := or_step64 a c ha0 ⟨h0, h1⟩
  rw [← IntKind.wrap_u64] at HO
  have hb0 : 0 ≤ (a * 256 + c) % 18446744073709551616 := Int.emod_nonneg _ (by decide)
  have hb1 : (a * 256 + c) % 18446744073709551616 < 18446744073709551616 := Int.emod_lt_of_pos _ (by decide)
  have HB := Lib.hid hg
  unfold hfollow
  dsimp only
  generalize (a * 256 + c) % 18446744073709551616 = x at *
  clear hg
  by_cases hm : m = 7
  · subst hm
    by_cases hW : W = 1
    · subst hW
      by_cases hx : x < 32
      · rw [if_pos ⟨rfl, rfl, hx⟩]
        go_enter Try.func66, Try.ntmps66
        go_wp2_with fail
        go_end0
        exact ⟨rfl, ((HB.out.put 2 (.int .u64 x)).put 3 (.int .i64 (l - 1))).put 5 (.int .i64 2), (((Only.refl g w).put 2 _).put 3 _).put 5 _⟩
      · rw [if_neg (fun h => hx h.2.2)]
        go_enter Try.func66, Try.ntmps66
        go_wp2_with fail
        go_end0
        exact ⟨rfl, (HB.out.put 2 (.int .u64 x)).put 3 (.int .i64 (l - 1)), ((Only.refl g w).put 2 _).put 3 _⟩
    · rw [if_neg (fun h => hW h.2.1)]
      go_enter Try.func66, Try.ntmps66
      go_wp2_with fail
      go_end0
      exact ⟨rfl, (HB.out.put 2 (.int .u64 x)).put 3 (.int .i64 (l - 1)), ((Only.refl g w).put 2 _).put 3 _⟩
  · rw [if_neg (fun h => hm h.1)]
    go_enter Try.func66, Try.ntmps66
    go_wp2_with fail
    go_end0
    exact ⟨rfl, (HB.out.put 2 (.int .u64 x)).put 3 (.int .i64 (l - 1)), ((Only.refl g w).put 2 _).put 3 _⟩

end Go.Proofs.Ytchhbcmkhbfpoaa
