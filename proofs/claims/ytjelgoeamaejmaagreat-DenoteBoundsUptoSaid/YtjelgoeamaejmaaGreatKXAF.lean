/- Package denote: teller: a table of which node stands for which part, and the function that reads it. -/
import Derived.Test.YtjelgoeamaejmaaGreatKBA
import Derived.Test.YtjelgoeamaejmaaGreatKXAA
import Derived.Test.YtjelgoeamaejmaaGreatKXAE
namespace Go.Proofs.YtjelgoeamaejmaaGreat
open Go.RowKit

/-! ### A row of answers, the first a of them worked out -/
def rowB (m a : Nat) (f : Nat → Bool) : List Bool := (List.range m).map fun j => if j < a then f j else false
theorem rowB_len (m a : Nat) (f : Nat → Bool) : (rowB m a f).length = m := by simp [rowB]
theorem rowB_zero (m : Nat) (f : Nat → Bool) : rowB m 0 f = List.replicate m false := by
  apply List.ext_getElem
  · simp [rowB]
  · intro i h1 h2
    simp [rowB]
theorem rowB_set {m a : Nat} (f : Nat → Bool) (ha : a < m) : (rowB m a f).set a (f a) = rowB m (a + 1) f := by
  apply List.ext_getElem
  · simp [rowB]
  · intro i h1 h2
    rw [List.getElem_set]
    simp only [rowB, List.getElem_map, List.getElem_range]
    split
    · subst_vars
      rw [if_pos (by omega)]
    · by_cases h : i < a
      · rw [if_pos h, if_pos (by omega)]
      · rw [if_neg h, if_neg (by omega)]
theorem rowB_at {m a j : Nat} (f : Nat → Bool) (hj : j < m) : (bls (rowB m a f))[j]? = some (.bool (if j < a then f j else false)) := by
  rw [bls_get _ _ (by rw [rowB_len]; exact hj), List.getD_eq_getElem?_getD]
  simp [rowB, hj]
theorem blk_far {w : World} {a b : Nat} {s t : TypeId} {cs ds : Array Value} (h : Blk w a s cs) (h' : Blk w b t ds) (ht : s ≠ t) : a ≠ b := fun e => by
  subst e
  have := h.symm.trans h'
  injection this with this
  injection this with _ h2
  exact ht h2
/-- The table: block cm holds it, block g its rows from lo on. -/
structure Tbl (w : World) (B H cm g n m lo : Nat) (R : Nat → Nat → Bool) : Prop where
  c : Blk w cm 66 #[.slice (some ⟨g, 0, none⟩) n n]
  cb : B ≤ cm ∧ cm < H
  gb : B ≤ g ∧ g < H
  rows : ∃ cs, Blk w g 40 cs ∧ cs.size = n ∧ ∀ i, lo ≤ i → i < n → ∃ r, cs[i]? = some (.slice (some ⟨r, 0, none⟩) m m) ∧ Blk w r 4 (bls (rowB m m (R i))) ∧ B ≤ r ∧ r < H
theorem Tbl.keep {w w' : World} {B H cm g n m lo : Nat} {R : Nat → Nat → Bool} (h : Tbl w B H cm g n m lo R) (hb : ∀ b, b < H → b < w.heap.size → w'.heap[b]? = w.heap[b]?) : Tbl w' B H cm g n m lo R := by
  obtain ⟨cs, h1, h2, h3⟩ := h.rows
  have up : ∀ {b : Nat} {t : TypeId} {zs : Array Value}, b < H → Blk w b t zs → Blk w' b t zs := fun hl hk => (hb _ hl hk.lt).trans hk
  exact ⟨up h.cb.2 h.c, h.cb, h.gb, cs, up h.gb.2 h1, h2, fun i hi hn => by
    obtain ⟨r, q1, q2, q3, q4⟩ := h3 i hi hn
    exact ⟨r, q1, up q4 q2, q3, q4⟩⟩
theorem Tbl.on {w w' : World} {B H cm g n m lo : Nat} {R : Nat → Nat → Bool} (h : Tbl w B H cm g n m lo R) (hb : Below w.heap.size w w') : Tbl w' B H cm g n m lo R := h.keep fun b _ hl => hb.block b hl
theorem Tbl.more {w : World} {B H H' cm g n m lo : Nat} {R : Nat → Nat → Bool} (h : Tbl w B H cm g n m lo R) (hh : H ≤ H') : Tbl w B H' cm g n m lo R := by
  obtain ⟨cs, h1, h2, h3⟩ := h.rows
  exact ⟨h.c, ⟨h.cb.1, by have := h.cb.2; omega⟩, ⟨h.gb.1, by have := h.gb.2; omega⟩, cs, h1, h2, fun i hi hn => by
    obtain ⟨r, q1, q2, q3, q4⟩ := h3 i hi hn
    exact ⟨r, q1, q2, q3, by omega⟩⟩
/-- Another node's row is hung in. -/
theorem Tbl.hang {w : World} {B H cm g n m lo : Nat} {R : Nat → Nat → Bool} (h : Tbl w B H cm g n m (lo + 1) R) (u : Value) : Tbl (w.setCell ⟨g, lo, none⟩ u) B H cm g n m (lo + 1) R := by
  obtain ⟨cs, h1, h2, h3⟩ := h.rows
  refine ⟨h.c.far (fun e => blk_far h.c h1 (by decide) e) u, h.cb, h.gb, _, h1.put lo u, by simpa using h2, fun i hi hn => ?_⟩
  obtain ⟨r, q1, q2, q3, q4⟩ := h3 i hi hn
  exact ⟨r, by rw [Array.getElem?_setIfInBounds_ne (by omega)]; exact q1, q2.far (fun e => blk_far q2 h1 (by decide) e) u, q3, q4⟩
/-- A row that is worked out stands with the others. -/
theorem Tbl.done {w : World} {B H cm g n m lo r : Nat} {R : Nat → Nat → Bool} (h : Tbl w B H cm g n m (lo + 1) R) (hn : lo < n) (hc : w.cell? ⟨g, lo, none⟩ = some (.slice (some ⟨r, 0, none⟩) m m)) (hr : Blk w r 4 (bls (rowB m m (R lo)))) (hB : B ≤ r) (hH : H ≤ r) : Tbl w B (r + 1) cm g n m lo R := by
  obtain ⟨cs, h1, h2, h3⟩ := h.rows
  refine ⟨h.c, ⟨h.cb.1, by have := h.cb.2; omega⟩, ⟨h.gb.1, by have := h.gb.2; omega⟩, cs, h1, h2, fun i hi hin => ?_⟩
  by_cases e : i = lo
  · subst e
    exact ⟨r, by rw [← h1.cell]; exact hc, hr, hB, by omega⟩
  · obtain ⟨r', q1, q2, q3, q4⟩ := h3 i (by omega) hin
    exact ⟨r', q1, q2, q3, by omega⟩
theorem Tbl.at_ {w : World} {B H cm g n m lo : Nat} {R : Nat → Nat → Bool} (h : Tbl w B H cm g n m lo R) {i a : Nat} (hi : lo ≤ i) (hn : i < n) (ha : a < m) :
    ∃ r, w.cell? ⟨g, i, none⟩ = some (.slice (some ⟨r, 0, none⟩) m m) ∧ w.cell? ⟨r, a, none⟩ = some (.bool (R i a)) := by
  obtain ⟨cs, h1, h2, h3⟩ := h.rows
  obtain ⟨r, q1, q2, q3, q4⟩ := h3 i hi hn
  exact ⟨r, by rw [h1.cell]; exact q1, by rw [q2.cell, rowB_at _ ha, if_pos ha]⟩
theorem den_stands (w : World) {B H cm g n m lo : Nat} {R : Nat → Nat → Bool} (h : Tbl w B H cm g n m lo R) (i a : Nat) (hi : lo ≤ i) (hn : i < n) (ha : a < m) :
    Calls Tryz.prog 34 #[.int .i64 (i : Int), .int .i64 (a : Int), .pointer (some ⟨cm, 0, none⟩)] w fun e w' => e = .returned (.bool (R i a)) ∧ w' = w := by
  obtain ⟨r, c1, c2⟩ := h.at_ hi hn ha
  have c0 : w.cell? ⟨cm, 0, none⟩ = some (.slice (some ⟨g, 0, none⟩) n n) := by rw [h.c.cell]; rfl
  have hin : (i : Int) < n := by omega
  have ham : (a : Int) < m := by omega
  generalize R i a = b at *
  clear h hi hn ha
  go_enter Tryz.func34, Tryz.ntmps34
  go_wp2_with fail
  go_ret
  exact ⟨rfl, rfl⟩
theorem infoRow : (Tryz.prog.info? 40).map (fun i => (i.zero, i.size, i.bytes)) = some (some (.slice none 0 0), 1, 24) := by kernel_rfl
theorem made_slices (z : Value) (n : Nat) : madeCells #[z] n = Array.replicate n z := by
  apply Array.ext
  · simp [size_madeCells]
  · intro i h1 h2
    simp [madeCells, Nat.mod_one]
/-- A part by value. -/
def vP (p : Pt) : Value := .agg #[.int .i64 p.x.k, .int .u64 p.x.n, .string p.x.s, .slice p.A p.x.l.length p.cap, .int .i64 p.it]
/-- The function that reads the table. -/
def standsV (cm : Nat) : Value := .func (.func 34) #[] #[.pointer (some ⟨cm, 0, none⟩)]
/-- What a rule is: a function of a part and its place, that asks the table of later nodes. -/
structure Rule (w0 W W' : World) (B cm g n m node : Nat) (R : Nat → Nat → Bool) (ps : List Pt) (fid : Nat) (lb : Array Value) : Prop where
  call : ∀ (W2 : World) (H at_ : Nat) (pt : Pt), ps[at_]? = some pt → Tbl W2 B H cm g n m (node + 1) R → Below w0.heap.size w0 W2 → (∀ b, W.heap.size ≤ b → b < W'.heap.size → W2.heap[b]? = W'.heap[b]?) →
    Calls Tryz.prog fid (#[vP pt, .int .i64 (at_ : Int)] ++ lb) W2 fun e W3 => e = .returned (.bool (R node at_)) ∧ Below W2.heap.size W2 W3
end Go.Proofs.YtjelgoeamaejmaaGreat
