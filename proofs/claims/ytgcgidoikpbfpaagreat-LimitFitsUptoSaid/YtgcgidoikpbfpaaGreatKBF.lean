/- Package enc: what Check calls right may be encoded; what is not great is of no great bulk. -/
import Derived.Test.YtgcgidoikpbfpaaGreatKBA
import Derived.Test.YtgcgidoikpbfpaaGreatKBE
import Derived.Test.YtgcgidoikpbfpaaGreatKAM
import Derived.Test.YtgcgidoikpbfpaaGreatKAQ
import Derived.Lib.BytesEntry
import Derived.Test.YtgcgidoikpbfpaaGreatRows
import Derived.RegionTactic
import Derived.BigRegion
import Derived.Deep.RegionHeld3
namespace Go.Proofs.YtgcgidoikpbfpaaGreat
open Go.RowKit

theorem over_bulk : ∀ (d : Nat) (t : It), overB d t = false → t.bulk ≤ 309 * t.count := by
  intro d
  induction d with
  | zero => intro t h; cases h
  | succ d ih =>
    intro t h
    obtain ⟨k, n, s, l⟩ := t
    simp only [overB, Bool.or_eq_false_iff, It.l, It.s] at h
    have h0 := of_decide_eq_false h.1.2
    have hl : ∀ (l : List It), l.any (overB d) = false → bulkL l ≤ 309 * countL l := by
      intro l
      induction l with
      | nil => intro _; simp [bulkL]
      | cons x r ihr =>
        intro h
        rw [List.any_cons, Bool.or_eq_false_iff] at h
        have h1 := ih x h.1
        have h2 := ihr h.2
        simp only [bulkL, countL]
        omega
    have := hl l h.2
    rw [It.bulk, It.count]
    omega
theorem great_bulk {x : It} (h : greatB x = false) : x.bulk ≤ 1000000 := by
  have h1 := not_great h
  unfold greatB at h
  rw [Bool.or_eq_false_iff] at h
  have := over_bulk 80 x h.1
  omega
mutual
theorem ok_all (t : It) (d : Nat) (h : ∀ p ∈ t.items d, okTop p.2) : t.okE := by
  obtain ⟨k, n, s, l⟩ := t
  rw [It.okE]
  rw [It.items] at h
  exact ⟨h _ (List.mem_cons_self ..), okL_all l (d + 1) fun p hp => h p (List.mem_cons_of_mem _ hp)⟩
theorem okL_all (l : List It) (d : Nat) (h : ∀ p ∈ itemsL l d, okTop p.2) : okEL l := by
  cases l with
  | nil => simp [okEL]
  | cons t r =>
    rw [itemsL] at h
    rw [okEL]
    exact ⟨ok_all t d fun p hp => h p (List.mem_append_left _ hp), okL_all r d fun p hp => h p (List.mem_append_right _ hp)⟩
end
theorem firstErr_zero : ∀ {l : List Int}, firstErr l = 0 → ∀ e ∈ l, e = 0
  | [], _, e, he => by cases he
  | x :: r, h, e, he => by
    unfold firstErr at h
    by_cases hx : x = 0
    · rw [if_neg (by simpa using hx)] at h
      rcases List.mem_cons.1 he with rfl | he
      · exact hx
      · exact firstErr_zero h e he
    · rw [if_pos hx] at h
      exact absurd h hx
theorem wrong_zero {t : It} (h : wrongI t = 0) : formB t = true ∧ rangB t = true := by
  unfold wrongI at h
  by_cases h1 : formB t = false
  · rw [if_pos h1] at h; cases h
  · rw [if_neg h1] at h
    by_cases h2 : rangB t = false
    · rw [if_pos h2] at h; cases h
    · exact ⟨by simpa using h1, by simpa using h2⟩
theorem check_ok {N : Nat} {x : It} (hN : N ≤ 1099511627776) (hx : okI N x) (h : checkR wrongI x = 0) : x.okE := by
  refine ok_all x 1 fun p hp => ?_
  have h1 : wrongI p.2 = 0 := by
    unfold checkR at h
    by_cases h64 : 64 < x.depth
    · rw [if_pos h64] at h; cases h
    · rw [if_neg h64] at h
      exact firstErr_zero h _ (List.mem_map_of_mem hp)
  obtain ⟨a, b⟩ := wrong_zero h1
  obtain ⟨c, d, e, f⟩ := okI_item hx (d := p.1) (t := p.2) hp
  refine ⟨a, b, c, d, by omega, ?_⟩
  have : p.2.l.length ≤ p.2.count := by
    rw [It.count_eq]
    have : ∀ l : List It, l.length ≤ countL l := fun l => by
      induction l with
      | nil => simp [countL]
      | cons x r ih => rw [countL, List.length_cons]; have := count_pos x; omega
    have := this p.2.l
    omega
  omega

end Go.Proofs.YtgcgidoikpbfpaaGreat

/- Package limit, plain: the longest key; what an item has, what stands in it has, too. -/
namespace Go.Proofs.YtgcgidoikpbfpaaGreat
open Go.RowKit

mutual
/-- How many bytes the longest key has. -/
noncomputable def It.lkey : It → Nat
  | .mk k _ _ l => lkeyL (decide (k = 5)) true l
noncomputable def lkeyL (m : Bool) : Bool → List It → Nat
  | _, [] => 0
  | e, t :: r => max (if (m && e) = true then t.enc.length else t.lkey) (lkeyL m (!e) r)
end
theorem It.lkey_eq (t : It) : t.lkey = lkeyL (decide (t.k = 5)) true t.l := by cases t; rw [It.lkey]; rfl
theorem lkeyL_snoc (m : Bool) (t : It) : ∀ (l : List It) (e : Bool), lkeyL m e (l ++ [t]) = max (lkeyL m e l) (if (m && (e == decide (l.length % 2 = 0))) = true then t.enc.length else t.lkey)
  | [], e => by simp [lkeyL]
  | x :: r, e => by
    rw [List.cons_append, lkeyL, lkeyL, lkeyL_snoc m t r (!e), Nat.max_assoc]
    have h : ((!e) == decide (r.length % 2 = 0)) = (e == decide ((x :: r).length % 2 = 0)) := by
      rw [List.length_cons]
      by_cases h : r.length % 2 = 0
      · rw [decide_eq_true h, decide_eq_false (by omega)]; cases e <;> rfl
      · rw [decide_eq_false h, decide_eq_true (by omega)]; cases e <;> rfl
    rw [h]
mutual
theorem lkey_le (x : It) : x.lkey ≤ x.enc.length := by
  obtain ⟨k, n, s, l⟩ := x
  have h := lkeyL_le (decide (k = 5)) true l
  rw [It.lkey, It.enc, List.length_append, List.length_append]
  omega
theorem lkeyL_le (m e : Bool) (l : List It) : lkeyL m e l ≤ (encL l).length := by
  cases l with
  | nil => simp [lkeyL]
  | cons x r =>
    have h1 := lkey_le x
    have h2 := lkeyL_le m (!e) r
    rw [lkeyL, encL, List.length_append]
    split <;> omega
end
mutual
theorem items_up (t : It) (d : Nat) : t.items (d + 1) = (t.items d).map fun p => (p.1 + 1, p.2) := by
  obtain ⟨k, n, s, l⟩ := t
  rw [It.items, It.items, itemsL_up l (d + 1)]
  rfl
theorem itemsL_up (l : List It) (d : Nat) : itemsL l (d + 1) = (itemsL l d).map fun p => (p.1 + 1, p.2) := by
  cases l with
  | nil => rfl
  | cons t r => rw [itemsL, itemsL, items_up t d, itemsL_up r d, List.map_append]
end
theorem items_sub {x y : It} (h : y ∈ x.l) (d : Nat) : ∀ p ∈ y.items (d + 1), p ∈ x.items d := fun p hp => by
  rw [It.items_eq]
  refine List.mem_cons_of_mem _ ?_
  have : ∀ l : List It, y ∈ l → p ∈ itemsL l (d + 1) := fun l => by
    induction l with
    | nil => intro h; cases h
    | cons t r ih =>
      intro h
      rw [itemsL]
      rcases List.mem_cons.1 h with rfl | h
      · exact List.mem_append_left _ hp
      · exact List.mem_append_right _ (ih h)
  exact this x.l h
theorem items_any {x y : It} (h : y ∈ x.l) : ∀ p ∈ y.items 1, (p.1 + 1, p.2) ∈ x.items 1 := fun p hp => items_sub h 1 _ (by rw [items_up]; exact List.mem_map.2 ⟨p, hp, rfl⟩)
theorem okI_sub {N : Nat} {x y : It} (hx : okI N x) (h : y ∈ x.l) : okI N y := by
  refine ⟨Nat.le_trans (count_le_of_mem h) (by have := hx.1; rw [It.count_eq] at this; omega), fun d p hp => ?_⟩
  have hu : (p.1 + 1, p.2) ∈ y.items (d + 1) := by rw [items_up]; exact List.mem_map.2 ⟨p, hp, rfl⟩
  exact hx.2 d (p.1 + 1, p.2) (items_sub h d _ hu)
theorem depth_sub {x y : It} (h : y ∈ x.l) : y.depth + 1 ≤ x.depth := by
  have h0 : 1 ≤ x.depth := le_mostOf (List.mem_map.2 ⟨(1, x), by rw [It.items_eq]; exact List.mem_cons_self .., rfl⟩)
  have : y.depth ≤ x.depth - 1 := mostOf_le fun d hd => by
    obtain ⟨p, hp, rfl⟩ := List.mem_map.1 hd
    have : p.1 + 1 ≤ x.depth := le_mostOf (List.mem_map.2 ⟨(p.1 + 1, p.2), items_any h p hp, rfl⟩)
    omega
  omega
theorem check_sub {x y : It} (hx : checkR wrongI x = 0) (h : y ∈ x.l) : checkR wrongI y = 0 := by
  unfold checkR at hx ⊢
  have hd := depth_sub h
  by_cases h64 : 64 < x.depth
  · rw [if_pos h64] at hx; cases hx
  · rw [if_neg h64] at hx
    rw [if_neg (by omega)]
    refine firstErr_all fun e he => ?_
    obtain ⟨p, hp, rfl⟩ := List.mem_map.1 he
    exact firstErr_zero hx _ (List.mem_map.2 ⟨_, items_any h p hp, rfl⟩)
theorem bulk_sub {x y : It} (h : y ∈ x.l) : y.bulk ≤ x.bulk := by
  obtain ⟨k, n, s, l⟩ := x
  have : ∀ l : List It, y ∈ l → y.bulk ≤ bulkL l := fun l => by
    induction l with
    | nil => intro h; cases h
    | cons t r ih =>
      intro h
      rw [bulkL]
      rcases List.mem_cons.1 h with rfl | h
      · omega
      · have := ih h; omega
  have := this l h
  rw [It.bulk]
  omega
theorem depth_pos (x : It) : 1 ≤ x.depth := le_mostOf (List.mem_map.2 ⟨(1, x), by rw [It.items_eq]; exact List.mem_cons_self .., rfl⟩)
/-- Are limits right? -/
def rightL (d k s : Int) : Bool := decide (1 ≤ d) && decide (d ≤ 64) && (decide (1 ≤ k) && decide (k ≤ 1024)) && (decide (1 ≤ s) && decide (s ≤ 2305843009213693951))
theorem rightL_true {d k s : Int} : rightL d k s = true ↔ 1 ≤ d ∧ d ≤ 64 ∧ 1 ≤ k ∧ k ≤ 1024 ∧ 1 ≤ s ∧ s ≤ 2305843009213693951 := by
  simp only [rightL, Bool.and_eq_true, decide_eq_true_eq, and_assoc]
/-- What Check tells of limits. -/
def rightR (d k s : Int) : Int := if rightL d k s = true then 0 else 15
/-- What Fits tells of an item. -/
noncomputable def fitsR (x : It) (d k s : Int) : Int :=
  if rightL d k s = false then 15 else if checkR wrongI x ≠ 0 then checkR wrongI x else if s < (x.enc.length : Int) then 1 else if d < (x.depth : Int) then 3 else if k < (x.lkey : Int) then 4 else 0
theorem fitsR_zero {x : It} {d k s : Int} : fitsR x d k s = 0 ↔ rightL d k s = true ∧ checkR wrongI x = 0 ∧ (x.enc.length : Int) ≤ s ∧ (x.depth : Int) ≤ d ∧ (x.lkey : Int) ≤ k := by
  unfold fitsR
  by_cases h1 : rightL d k s = false
  · rw [if_pos h1, h1]; simp
  · rw [if_neg h1]
    by_cases h2 : checkR wrongI x ≠ 0
    · rw [if_pos h2]; exact ⟨fun h => absurd h h2, fun h => absurd h.2.1 h2⟩
    · rw [if_neg h2]
      have h1' : rightL d k s = true := by simpa using h1
      have h2' : checkR wrongI x = 0 := Decidable.not_not.1 h2
      by_cases h3 : s < (x.enc.length : Int)
      · rw [if_pos h3]; exact ⟨fun h => absurd h (by decide), fun h => absurd h.2.2.1 (by omega)⟩
      · rw [if_neg h3]
        by_cases h4 : d < (x.depth : Int)
        · rw [if_pos h4]; exact ⟨fun h => absurd h (by decide), fun h => absurd h.2.2.2.1 (by omega)⟩
        · rw [if_neg h4]
          by_cases h5 : k < (x.lkey : Int)
          · rw [if_pos h5]; exact ⟨fun h => absurd h (by decide), fun h => absurd h.2.2.2.2 (by omega)⟩
          · rw [if_neg h5]; exact ⟨fun _ => ⟨h1', h2', by omega, by omega, by omega⟩, fun _ => rfl⟩
end Go.Proofs.YtgcgidoikpbfpaaGreat

/- bytes.Compare. -/
namespace Go.Proofs.YtgcgidoikpbfpaaGreat
open Go.RowKit

theorem byteL_back {xs : List Int} (h : ByteL xs) : (Lib.bytesOf xs).map (fun c => (c.toNat : Int)) = xs := by
  unfold Lib.bytesOf
  rw [List.map_map]
  conv => rhs; rw [← List.map_id xs]
  refine List.map_congr_left fun x hx => ?_
  have := h x hx
  simp only [Function.comp, id]
  rw [UInt8.toNat_ofNat']
  omega
theorem compare_nums {xs ys : List Int} (hx : ByteL xs) (hy : ByteL ys) : Lib.compareBytes (Lib.bytesOf xs) (Lib.bytesOf ys) = seqC intC xs ys := by
  rw [← textC_bytes, byteL_back hx, byteL_back hy]
theorem run_bytesOf {w : World} {A : Option Addr} {cap : Nat} {xs : List Int} (h : Rd w w.heap.size .u8 A xs) : (Extern.Bytes.bytesOf (.slice A xs.length cap)).run Tryz.prog w = .ok ⟨(Lib.bytesOf xs).toArray⟩ w := by
  cases A with
  | none =>
    have hx : xs = [] := by
      rcases xs with _ | ⟨x, r⟩
      · rfl
      · obtain ⟨b, o, h, _⟩ := h (by simp)
        cases h
    subst hx
    rfl
  | some a =>
    by_cases hn : xs = []
    · subst hn
      cases a
      rfl
    · obtain ⟨b, o, hA, _, hc⟩ := h (List.length_pos_iff.2 hn)
      injection hA with hA
      subst hA
      have hl := Lib.run_loadBytesX (P := Tryz.prog) w xs ⟨b, o, none⟩ .empty (fun j x hj => by
        have hjl : j < xs.length := (List.getElem?_eq_some_iff.1 hj).1
        rw [Addr.add_mid, hc j hjl, List.getD_eq_getElem?_getD, hj]
        rfl)
      show (Extern.Bytes.loadBytes ⟨b, o, none⟩ xs.length .empty).run Tryz.prog w = _
      rw [hl]
      congr 1
      apply ByteArray.ext
      show (#[] : Array UInt8) ++ (Lib.bytesOf xs).toArray = (Lib.bytesOf xs).toArray
      simp
theorem run_compareSlices {w : World} {A1 A2 : Option Addr} {c1 c2 : Nat} {xs ys : List Int} (h1 : Rd w w.heap.size .u8 A1 xs) (h2 : Rd w w.heap.size .u8 A2 ys) (hx : ByteL xs) (hy : ByteL ys) :
    (Extern.BytealgCompare.compare #[.slice A1 xs.length c1, .slice A2 ys.length c2]).run Tryz.prog w = .ok (.int .i64 (seqC intC xs ys)) w := by
  change Sem.run Tryz.prog (do pure (goInt (Extern.BytealgCompare.cmp (← Extern.Bytes.bytesOf (.slice A1 xs.length c1)) (← Extern.Bytes.bytesOf (.slice A2 ys.length c2))))) w = _
  simp only [Sem.run_bind, run_bytesOf h1, run_bytesOf h2, Sem.run_pure, Result.andThen]
  rw [Lib.cmp_eq, ← compare_nums hx hy]
  rfl
end Go.Proofs.YtgcgidoikpbfpaaGreat

/- Package order: keys in memory, its functions. -/
namespace Go.Proofs.YtgcgidoikpbfpaaGreat
open Go.RowKit

/-- Of the blocks that were there only three have turned. -/
structure Tri (g p q : Nat) (w w' : World) : Prop where
  os : w'.os = w.os
  tape : w'.tape = w.tape
  output : w'.output = w.output
  size : w.heap.size ≤ w'.heap.size
  block : ∀ i, i < w.heap.size → i ≠ g → i ≠ p → i ≠ q → w'.heap[i]? = w.heap[i]?
section
variable {g p q B : Nat} {w w' w'' : World}
theorem Tri.refl : Tri g p q w w := ⟨rfl, rfl, rfl, Nat.le_refl _, fun _ _ _ _ _ => rfl⟩
theorem Tri.trans (h : Tri g p q w w') (k : Tri g p q w' w'') : Tri g p q w w'' :=
  ⟨k.os.trans h.os, k.tape.trans h.tape, k.output.trans h.output, Nat.le_trans h.size k.size, fun i hi a b c => (k.block i (Nat.lt_of_lt_of_le hi h.size) a b c).trans (h.block i hi a b c)⟩
theorem Tri.below (h : Tri g p q w w') (hs : B ≤ w.heap.size) (a : B ≤ g) (b : B ≤ p) (c : B ≤ q) : Below B w w' :=
  ⟨h.os, h.tape, h.output, h.size, fun i hi => h.block i (by omega) (by omega) (by omega) (by omega)⟩
theorem Tri.ofBelow (h : Below w.heap.size w w') : Tri g p q w w' := ⟨h.os, h.tape, h.output, h.size, fun i hi _ _ _ => h.block i hi⟩
theorem Tri.swap (h : Tri g p q w w') : Tri g q p w w' := ⟨h.os, h.tape, h.output, h.size, fun i hi a b c => h.block i hi a c b⟩
theorem Tri.on {i : Nat} {t : TypeId} {cs : Array Value} (h : Tri g p q w w') (hb : Blk w i t cs) (a : i ≠ g) (b : i ≠ p) (c : i ≠ q) : Blk w' i t cs := (h.block i hb.lt a b c).trans hb
theorem Tri.ofG (h : Only g w w') : Tri g p q w w' := ⟨h.os, h.tape, h.output, h.size, fun i hi a _ _ => h.block i hi (fun e => a (by injection e))⟩
theorem Tri.ofQ (h : Only q w w') : Tri g p q w w' := ⟨h.os, h.tape, h.output, h.size, fun i hi _ _ a => h.block i hi (fun e => a (by injection e))⟩
end

section
variable {g p q m : Nat} {w w' : World} {a b : List Int} {e : Bool}
theorem Own.on1 {B k t n c zs} (h : Own w B k t (.slice (some ⟨g, 0, none⟩) n c) zs) (hb : w'.heap[g]? = w.heap[g]?) : Own w' B k t (.slice (some ⟨g, 0, none⟩) n c) zs := by
  obtain ⟨h1, h2⟩ := h
  refine ⟨h1, ?_⟩
  rcases h2 with h2 | ⟨g', cap, cur, hv, hg, hh, r⟩
  · exact .inl h2
  · injection hv with e1 e2 e3
    injection e1 with e1
    injection e1 with e1
    subst e1
    exact .inr ⟨g, cap, cur, by rw [e2, e3], hg, by rw [hb]; exact hh, r⟩
theorem Own.lt0 {B k t n c zs} (h : Own w B k t (.slice (some ⟨g, 0, none⟩) n c) zs) : g < w.heap.size := by
  rcases h.2 with ⟨h2, _⟩ | ⟨g', cap, cur, hv, hg, hh, r⟩
  · cases h2
  · injection hv with e1 e2 e3
    injection e1 with e1
    injection e1 with e1
    subst e1
    exact (Array.getElem?_eq_some_iff.1 hh).1
theorem Own.zero {B k t c zs n} (h : Own w B k t (.slice (some ⟨g, 0, none⟩) n c) zs) : Own w B k t (.slice (some ⟨g, 0, none⟩) 0 c) [] := by
  obtain ⟨h1, h2⟩ := h
  refine ⟨rfl, ?_⟩
  rcases h2 with ⟨h2, _⟩ | ⟨g', cap, cur, hv, hg, hh, hn, hc, hs, ht⟩
  · cases h2
  · injection hv with e1 e2 e3
    injection e1 with e1
    injection e1 with e1
    subst e1
    subst e3
    exact .inr ⟨g, c, cur, rfl, hg, hh, Nat.zero_le _, hc, hs, by simp⟩
end

/-- Is a ahead of b? -/
def ahead (a b : List Int) : Bool := decide (seqC intC a b < 0)
/-- One of an array's small parts. -/
theorem run_index_part {P : Program} {t e : TypeId} {n : Nat} {d : TypeDesc} (hu : P.underlying t = some (.array n e)) (he : P.underlying e = some d) (hd : d.isRow = false) (hs : (P.info? e).map (·.size) = some 1) (cs : Array Value) (i : Nat) (hi : i < n) (v : Value) (hx : cs[i]? = some v) (w : World) :
    (Instr.index t (.agg cs) (.int .i64 i)).run P w = .ok v w := by
  have hz : ∀ w, (sizeOf e).run P w = .ok 1 w := fun w => by
    cases hq : P.info? e with
    | none => simp [hq] at hs
    | some j =>
      have : j.size = 1 := by simpa [hq] using hs
      simp [sizeOf, typeInfo, hq, this]
  have ha : (isAgg e).run P w = .ok false w := by
    unfold isAgg
    rw [Sem.run_bind, run_underlying he w]
    cases d <;> first | rfl | simp_all [TypeDesc.isRow]
  have hi' : (asIntOf (Value.int IntKind.i64 i)).run P w = .ok (.i64, (i : Int)) w := rfl
  simp [Instr.index, run_underlying hu, hz, part, ha, hi', hx, hi]
end Go.Proofs.YtgcgidoikpbfpaaGreat
