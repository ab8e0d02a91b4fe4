/- Package frame: New, Cap. -/
import Derived.Test.YtmclmfhimdppjaaKAT
import Derived.Test.YtmclmfhimdppjaaKAF
import Derived.BigRegion
namespace Go.Proofs.Ytmclmfhimdppjaa
open Go.RowKit

def nilC : List Value := [.pointer none, .int .i64 0, .int .u64 0, .bool false]
def nilCells : Nat → List Value
  | 0 => []
  | n + 1 => nilC ++ nilCells n
theorem nilCells_get (n : Nat) : ∀ i, i < n * 4 → (nilCells n)[i]? = nilC[i % 4]? := by
  induction n with
  | zero => intro i hi; omega
  | succ n ih =>
    intro i hi
    unfold nilCells
    by_cases h : i < 4
    · rw [List.getElem?_append_left (by simpa [nilC] using h), Nat.mod_eq_of_lt h]
    · rw [List.getElem?_append_right (by simp [nilC]; omega)]
      have e : i - nilC.length = i - 4 := rfl
      rw [e, ih (i - 4) (by omega)]
      congr 1
      omega
theorem length_nilCells (n : Nat) : (nilCells n).length = n * 4 := by
  induction n with
  | zero => rfl
  | succ n ih => unfold nilCells; rw [List.length_append, ih]; simp [nilC]; omega
theorem made_nil (n : Nat) : madeCells nilC.toArray (n * 4) = (nilCells n).toArray := by
  apply Array.ext
  · simp [size_madeCells, length_nilCells]
  · intro i h1 h2
    rw [size_madeCells] at h1
    have h3 := nilCells_get n i h1
    have h4 : i < (nilCells n).length := by simpa using h2
    rw [List.getElem?_eq_getElem h4] at h3
    have h5 : i % 4 < 4 := Nat.mod_lt _ (by decide)
    simp only [madeCells, Array.getElem_map, Array.getElem_range, List.getElem_toArray]
    have h6 : i % nilC.toArray.size = i % 4 := rfl
    rw [h6, getElem!_pos nilC.toArray (i % 4) (by simpa [nilC] using h5)]
    have h7 : nilC[i % 4]? = some (nilC.toArray[i % 4]'(by simpa [nilC] using h5)) := by rw [List.getElem?_eq_getElem (by simpa [nilC] using h5)]; rfl
    rw [h7] at h3
    injection h3 with h3
    exact h3.symm
theorem frcells_append (a b : List FC) : frcells (a ++ b) = frcells a ++ frcells b := by
  induction a with
  | nil => rfl
  | cons x r ih => simp [frcells, ih]

/-- A stack that is being made: the first frames have their keys. -/
structure MkS (w : World) (own : Nat → Nat) (B s f K D : Nat) (fs : List FC) : Prop where
  sblk : Blk w s 76 #[.slice (some ⟨f, 0, none⟩) D D, .int .i64 0]
  fblk : Blk w f 80 (frcells fs ++ nilCells (D - fs.length)).toArray
  os : own s = 1
  of : own f = 2
  ks : ∀ (i : Nat) (x : FC), fs[i]? = some x → Ks w x.k.g x.k.p x.k.q K x.k.a x.k.b x.k.e ∧ own x.k.g = i + 3 ∧ own x.k.p = i + 3 ∧ own x.k.q = i + 3 ∧ ByteL x.k.a ∧ ByteL x.k.b
  lo : ∀ j, own j ≠ 0 → B ≤ j ∧ j < w.heap.size
  len : fs.length ≤ D
section
variable {w w' : World} {own : Nat → Nat} {B s f K D : Nat} {fs : List FC}
theorem MkS.done (h : MkS w own B s f K D fs) (hl : fs.length = D) (hD : D ≤ 64) : StkR w own s f D K [] := by
  refine ⟨fs, hl, ⟨?_, ?_, h.os, h.of, h.ks, Nat.zero_le _, by omega⟩, fun i y hy => ?_⟩
  · have := h.sblk; rw [← hl] at this; exact this
  · have := h.fblk; rw [hl, Nat.sub_self] at this; simpa [nilCells] using this
  · simp at hy
theorem MkS.on (h : MkS w own B s f K D fs) (hb : Below w.heap.size w w') : MkS w' own B s f K D fs :=
  ⟨h.sblk.on hb, h.fblk.on hb, h.os, h.of, fun i x hx => let ⟨a, b⟩ := h.ks i x hx; ⟨a.on hb, b⟩, fun j hj => ⟨(h.lo j hj).1, Nat.lt_of_lt_of_le (h.lo j hj).2 hb.size⟩, h.len⟩
theorem MkS.cell (h : MkS w own B s f K D fs) (hk : fs.length < D) : w.cell? ⟨f, fs.length * 4, none⟩ = some (.pointer none) := by
  rw [h.fblk.cell, List.getElem?_toArray, List.getElem?_append_right (by rw [length_frcells]; omega), length_frcells, Nat.sub_self, nilCells_get _ 0 (by omega)]
  rfl
/-- One more frame has its keys. -/
theorem MkS.next (h : MkS w own B s f K D fs) (hk : fs.length < D) (hb : Below w.heap.size w w') {g p q : Nat} (hB : B ≤ w.heap.size) (hg : w.heap.size ≤ g) (hp : w.heap.size ≤ p) (hq : w.heap.size ≤ q) (hks : Ks w' g p q K [] [] false) :
    ∃ own', MkS (w'.setCell ⟨f, fs.length * 4, none⟩ (.pointer (some ⟨g, 0, none⟩))) own' B s f K D (fs ++ [⟨0, 0, false, ⟨g, p, q, [], [], false⟩⟩]) := by
  have h1 := h.on hb
  have own0 : ∀ j, w.heap.size ≤ j → own j = 0 := fun j hj => by
    apply Classical.byContradiction
    intro hn
    have := (h.lo j hn).2
    omega
  have hf : f < w.heap.size := h.fblk.lt
  have hs : s < w.heap.size := h.sblk.lt
  have blk : ∀ j, j ≠ f → (w'.setCell ⟨f, fs.length * 4, none⟩ (.pointer (some ⟨g, 0, none⟩))).heap[j]? = w'.heap[j]? := fun j hj => Below.heap_setCell w' _ _ j hj
  refine ⟨fun j => if j = g ∨ j = p ∨ j = q then fs.length + 3 else own j, ?_⟩
  have old : ∀ j, j < w.heap.size → (if j = g ∨ j = p ∨ j = q then fs.length + 3 else own j) = own j := fun j hj => by rw [if_neg (by omega)]
  refine ⟨(blk s (fun e => by have := h.os; have := h.of; rw [e] at *; omega)).trans h1.sblk, ?_, by rw [old s hs]; exact h.os, by rw [old f hf]; exact h.of, fun i x hx => ?_, fun j hj => ?_, by simp; omega⟩
  · have := h1.fblk.put (fs.length * 4) (.pointer (some ⟨g, 0, none⟩))
    rw [List.setIfInBounds_toArray, List.set_append, if_neg (by rw [length_frcells]; omega), length_frcells, Nat.sub_self, show D - fs.length = (D - (fs.length + 1)) + 1 by omega] at this
    rw [frcells_append, List.length_append, List.length_singleton, List.append_assoc]
    exact this
  · rcases Nat.lt_or_ge i fs.length with hi | hi
    · rw [List.getElem?_append_left hi] at hx
      obtain ⟨a1, a2, a3, a4, a5⟩ := h1.ks i x hx
      have b2 := (h.lo x.k.g (by omega)).2
      have b3 := (h.lo x.k.p (by omega)).2
      have b4 := (h.lo x.k.q (by omega)).2
      have ne : ∀ j, own j = i + 3 → j ≠ f := fun j hj e => by have := h.of; rw [e] at hj; omega
      exact ⟨a1.keep (by simp [World.setCell]) (blk _ (ne _ a2)) (blk _ (ne _ a3)) (blk _ (ne _ a4)), by rw [old _ b2]; exact a2, by rw [old _ b3]; exact a3, by rw [old _ b4]; exact a4, a5⟩
    · rw [List.getElem?_append_right hi] at hx
      have hi' := lt_of_get hx
      simp only [List.length_singleton] at hi'
      obtain rfl : i = fs.length := by omega
      rw [Nat.sub_self] at hx
      injection hx with hx
      subst hx
      exact ⟨hks.keep (by simp [World.setCell]) (blk _ (by omega)) (blk _ (by omega)) (blk _ (by omega)), by simp, by simp, by simp, fun y hy => (by cases hy), fun y hy => by cases hy⟩
  · have hsz := hb.size
    have : (w'.setCell ⟨f, fs.length * 4, none⟩ (.pointer (some ⟨g, 0, none⟩))).heap.size = w'.heap.size := by simp [World.setCell]
    rw [this]
    by_cases e : j = g ∨ j = p ∨ j = q
    · rcases e with rfl | rfl | rfl
      · exact ⟨by omega, hks.blk.lt⟩
      · exact ⟨by omega, hks.lp⟩
      · exact ⟨by omega, hks.lq⟩
    · rw [if_neg e] at hj
      have := h.lo j hj
      exact ⟨this.1, by omega⟩
end
theorem frameInfo : (Try.prog.info? 80).map (fun i => (i.zero, i.size, i.bytes)) = some (some (.agg nilC.toArray), 4, 32) := by kernel_rfl

set_option maxRecDepth 100000 in
set_option maxHeartbeats 1000000 in
theorem frame_New (w : World) (D K : Nat) (h1 : 1 ≤ D) (h2 : D ≤ 64) (k1 : 1 ≤ K) (k2 : K ≤ 1024) :
    Calls Try.prog 18 #[.int .i64 D, .int .i64 K] w fun e w' => ∃ own s f, e = .returned (.pointer (some ⟨s, 0, none⟩)) ∧ StkR w' own s f D K [] ∧ (∀ j, own j ≠ 0 → w.heap.size ≤ j ∧ j < w'.heap.size) ∧ Below w.heap.size w w' := by
  obtain ⟨i0, hi0, hz0, hz1, hz2⟩ := info_parts frameInfo
  have hmk0 := run_make (P := Try.prog) w 74 80 i0 (.agg nilC.toArray) Try.underlying74 hi0 hz0 .i64 .i64 D D (by omega) (by omega) (by rw [hz2]; omega) (by omega)
  have hcl : (Value.agg nilC.toArray).cells = nilC.toArray := rfl
  rw [Int.toNat_natCast, hz1, hcl, made_nil] at hmk0
  have a0 := below_alloc w (.cells (nilCells D).toArray 80)
  have b0 : Blk (w.alloc (.cells (nilCells D).toArray 80)) w.heap.size 80 (nilCells D).toArray := Blk.fresh _ _ _
  have hsz0 : (w.alloc (.cells (nilCells D).toArray 80)).heap.size = w.heap.size + 1 := by simp
  obtain ⟨w1, hw1⟩ : ∃ w1, w.alloc (.cells (nilCells D).toArray 80) = w1 := ⟨_, rfl⟩
  rw [hw1] at hmk0 a0 b0 hsz0
  have b1 : Blk (w1.alloc (.cells #[.slice (some ⟨w.heap.size, 0, none⟩) D D, .int .i64 0] 76)) w1.heap.size 76 #[.slice (some ⟨w.heap.size, 0, none⟩) D D, .int .i64 0] := Blk.fresh _ _ _
  have a1 := a0.trans ((below_alloc w1 (.cells #[.slice (some ⟨w.heap.size, 0, none⟩) D D, .int .i64 0] 76)).mono a0.size)
  have c1 := b0.alloc (.cells #[.slice (some ⟨w.heap.size, 0, none⟩) D D, .int .i64 0] 76)
  have hsz1 : (w1.alloc (.cells #[.slice (some ⟨w.heap.size, 0, none⟩) D D, .int .i64 0] 76)).heap.size = w.heap.size + 2 := by simp [hsz0]
  rw [hsz0] at b1
  have hM : Hid (MkS (w1.alloc (.cells #[.slice (some ⟨w.heap.size, 0, none⟩) D D, .int .i64 0] 76)) (fun j => if j = w.heap.size + 1 then 1 else if j = w.heap.size then 2 else 0) w.heap.size (w.heap.size + 1) w.heap.size K D []) := by
    refine ⟨b1, ?_, by simp, by simp, fun i x hx => (by simp at hx), fun j hj => ?_, Nat.zero_le _⟩
    · simpa [frcells] using c1
    · rw [hsz1]
      by_cases e1 : j = w.heap.size + 1
      · omega
      · rw [if_neg e1] at hj
        by_cases e2 : j = w.heap.size
        · omega
        · rw [if_neg e2] at hj; exact absurd rfl hj
  have HA := Lib.hid a1
  obtain ⟨cell0, cell1⟩ : (w1.alloc (.cells #[.slice (some ⟨w.heap.size, 0, none⟩) D D, .int .i64 0] 76)).cell? ⟨w.heap.size + 1, 0, none⟩ = some (.slice (some ⟨w.heap.size, 0, none⟩) D D) ∧ True := ⟨b1.cell 0, trivial⟩
  have hws : w1.heap.size = w.heap.size + 1 := hsz0
  have hDi : (1 : Int) ≤ D := by omega
  have hDj : (D : Int) ≤ 64 := by omega
  clear b1 c1 a1 a0 b0 hsz0 hsz1 hi0 hz0 hz1 hz2 cell1 hcl hw1
  go_enter Try.func18, Try.ntmps18
  go_wp2_with fail
  generalize w1.alloc (.cells #[.slice (some ⟨w.heap.size, 0, none⟩) D D, .int .i64 0] 76) = w2 at *
  clear cell0 hws hmk0
  go_loopw [18] (fun i wr => ∃ (k : Nat) (own : Nat → Nat) (fs : List FC), k ≤ D ∧ i = .int .i64 k ∧ fs.length = k ∧ MkS wr own w.heap.size (w.heap.size + 1) w.heap.size K D fs ∧ Below w.heap.size w wr) (fun i _ => D - (intOf i).toNat)
  case atStart => exact ⟨0, _, [], Nat.zero_le _, rfl, rfl, hM.out, HA.out⟩
  case round =>
    obtain ⟨k, own, fs, hk, rfl, hfl, hMk, hB⟩ := hrel
    by_cases hlt : k < D
    · have hltI : (k : Int) < D := by omega
      have HN := Lib.hid (fun v => order_New v (K : Int) K (by omega))
      have HD := Lib.hid (show Below wr.heap.size wr wr.drew from below_drawn (Below.refl _ _))
      have ccs : wr.cell? ⟨w.heap.size + 1, 0, none⟩ = some (.slice (some ⟨w.heap.size, 0, none⟩) D D) := hMk.sblk.cell 0
      have RI := fun v => run_frame v w.heap.size D D k (k : Int) rfl hlt
      have HC : Hid (∀ w5, Below wr.heap.size wr w5 → w5.cell? ⟨w.heap.size + 1, 0, none⟩ = some (.slice (some ⟨w.heap.size, 0, none⟩) D D) ∧ w5.frozen? ⟨w.heap.size, k * 4, none⟩ = false ∧ w5.cell? ⟨w.heap.size, k * 4, none⟩ = some (.pointer none)) := fun w5 hb => by
        have h5 := hMk.on hb
        exact ⟨h5.sblk.cell 0, h5.fblk.free _, by have := h5.cell (by omega); rwa [hfl] at this⟩
      have HX : Hid (∀ w5 g p q, Below wr.heap.size wr w5 → wr.heap.size ≤ g → wr.heap.size ≤ p → wr.heap.size ≤ q → Ks w5 g p q K [] [] false → (∃ own' fs', fs'.length = k + 1 ∧ MkS (w5.setCell ⟨w.heap.size, k * 4, none⟩ (.pointer (some ⟨g, 0, none⟩))) own' w.heap.size (w.heap.size + 1) w.heap.size K D fs') ∧ Below w.heap.size w (w5.setCell ⟨w.heap.size, k * 4, none⟩ (.pointer (some ⟨g, 0, none⟩)))) := fun w5 g p q hb hg hp hq hks => by
        obtain ⟨own', hm⟩ := hMk.next (by omega) hb hB.size hg hp hq hks
        rw [hfl] at hm
        exact ⟨⟨own', _, by simp [hfl], hm⟩, (hB.trans (hb.mono hB.size)).setCell (Nat.le_refl _) _⟩
      have hfol : Try.prog.follows Departure.mixedOrders = true := by kernel_rfl
      clear hMk hB hM HA hlt hk
      generalize k * 4 = u at *
      generalize w.heap.size = B at *
      go_wp2_with fail
      go_region_with (go_at_call 25; refine (HN.out _).mono ?_; rintro e w5 ⟨g, p, q, rfl, hg, hp, hq, hks, hb⟩; have hb5 := HD.out.trans hb; obtain ⟨q0, q1, q2⟩ := HC.out w5 hb5; have HY := Lib.hid (HX.out w5 g p q hb5 hg hp hq hks); clear hg hp hq hks hb hb5)
      all_goals
        go_wp2_with fail
        go_roundw
        case rel =>
          obtain ⟨⟨own', fs', y1, y2⟩, y3⟩ := HY.out
          exact ⟨k + 1, own', fs', by omega, by go_num, y1, y2, y3⟩
        case measure => simp [intOf]; omega
    · have hkD : k = D := by omega
      subst hkD
      have hltI : ¬ (k : Int) < k := by omega
      have HE := Lib.hid (hMk.done hfl h2)
      have HO := Lib.hid hMk.lo
      have HB := Lib.hid hB
      clear hMk hB hM HA
      go_wp2_with fail
      go_ret
      exact ⟨own, _, rfl, ⟨_, HE.out⟩, HO.out, HB.out⟩

set_option maxRecDepth 100000 in
theorem frame_Cap (w : World) (own : Nat → Nat) (s f D K : Nat) (h : StkW w own s f D K) :
    Calls Try.prog 21 #[.pointer (some ⟨s, 0, none⟩)] w fun e w' => e = .returned (.int .i64 (D * (2 * K))) ∧ w' = w := by
  obtain ⟨fs, n, hD, hS⟩ := h
  have c0 := hS.cells.1
  rw [hD] at c0
  have hl := hS.hl
  have HS := Lib.hid hS
  rw [hD] at hl
  have HD := Lib.hid hD
  clear hS hD
  go_enter Try.func21, Try.ntmps21
  go_wp2_with fail
  go_loop [3, 12] (fun v i => ∃ k : Nat, k ≤ D ∧ i = .int .i64 k ∧ v = .int .i64 (k * (2 * K))) (fun _ i => D - (intOf i).toNat)
  case atStart => exact ⟨0, by omega, rfl, by simp⟩
  case round =>
    obtain ⟨k, hk, rfl, rfl⟩ := hrel
    by_cases hlt : k < D
    · have hltI : (k : Int) < D := by omega
      obtain ⟨x, hx⟩ : ∃ x, fs[k]? = some x := ⟨_, List.getElem?_eq_getElem (by have := HD.out; omega)⟩
      have hks := (HS.out.ks k x hx).1
      have HCp := Lib.hid (order_Cap w _ _ _ _ _ _ _ hks)
      have d0 := (HS.out.fcell hx).1
      have hK := hks.lem
      have RI := fun v => run_frame v f D D k (k : Int) rfl hlt
      have e1 : (k : Int) * (2 * (K : Int)) + 2 * (K : Int) = ((k + 1 : Nat) : Int) * (2 * (K : Int)) := by rw [Int.natCast_add, Int.add_mul]; omega
      have e2 : (0 : Int) ≤ (k : Int) * (2 * (K : Int)) := Int.mul_nonneg (by omega) (by omega)
      have e3 : (k : Int) * (2 * (K : Int)) ≤ 64 * (2 * 1024) := Int.mul_le_mul (by omega) (by omega) (by omega) (by omega)
      have E1 := Lib.hid e1
      have e4 : (0 : Int) ≤ 2 * (K : Int) := by omega
      have e5 : 2 * (K : Int) ≤ 2048 := by omega
      clear hks hx e1
      generalize x.k.g = g at *
      generalize k * 4 = u at *
      generalize hP : (k : Int) * (2 * (K : Int)) = P at *
      generalize 2 * (K : Int) = Q at *
      have HPP := Lib.hid hP
      clear hP hK
      go_wp2_with fail
      refine HCp.out.mono ?_
      rintro e w' ⟨rfl, rfl⟩
      go_wp2_with fail
      go_round
      case rel => exact ⟨k + 1, by omega, by go_num, by rw [← E1.out]⟩
      case measure => simp [intOf]; omega
    · have hkD : k = D := by omega
      subst hkD
      have hltI : ¬ (k : Int) < k := by omega
      clear HS
      go_wp2_with fail
      go_ret
      exact ⟨rfl, rfl⟩
end Go.Proofs.Ytmclmfhimdppjaa
