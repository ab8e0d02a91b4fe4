/- A schema that came in: how it reads. -/
import Derived.Test.YtgbbgdjdomkohaaGreatKBJ
import Derived.Test.YtgbbgdjdomkohaaGreatKBA
import Derived.Test.YtgbbgdjdomkohaaGreatKBH
import Derived.Deep.RegionHeld3
namespace Go.Proofs.YtgbbgdjdomkohaaGreat
open Go.ChangeShapes Go.WideShapes Go.ChangeAt Go.RowKit

section
variable {H : Type} {enc : TypeId × Value → H} {W : World}
theorem place_of {a : Addr} {u : Value} (h : W.cell? a = some u) : ∃ b o, a = ⟨b, o, none⟩ ∧ b < W.heap.size := by
  obtain ⟨b, o, spot⟩ := a
  have hs : spot = none := World.cell?_spot h
  subst hs
  exact ⟨b, o, rfl, block_lt_of_cell h⟩
/-- Rows of s cells: what each reads as. -/
theorem rows_at {α : Type} {s : Nat} {a : Addr} {len : Nat} {cells : α → List Value} {z : Nat → α} (hs : ∀ x, (cells x).length = s) (h0 : 0 < s) (h : ∀ i, i < len → ∃ cs, W.cells? 0 (a.add (i * s)) s = some cs ∧ cs = cells (z i)) (hl : 0 < len) :
    ∃ b o, a = ⟨b, o, none⟩ ∧ b < W.heap.size ∧ ∀ i, i < len → ∀ j u, (cells (z i))[j]? = some u → W.cell? ⟨b, o + i * s + j, none⟩ = some u := by
  have cell : ∀ i, i < len → ∀ j u, (cells (z i))[j]? = some u → W.cell? (a.add (i * s + j)) = some u := fun i hi j u hu => by
    obtain ⟨cs', h1, h2⟩ := h i hi
    obtain ⟨_, hlen', hc⟩ := World.cells?_some h1
    have hj : j < s := by
      have := (List.getElem?_eq_some_iff.1 hu).1
      rwa [hs] at this
    have := hc j hj
    rw [Go.Deep.add_add] at this
    rw [this, h2]
    exact hu
  have hc0 : ∃ u, (cells (z 0))[0]? = some u := ⟨_, List.getElem?_eq_getElem (by rw [hs]; exact h0)⟩
  obtain ⟨u, hu⟩ := hc0
  have f0 := cell 0 hl 0 u hu
  obtain ⟨b, off, spot⟩ := a
  have hspot : spot = none := by simpa [Addr.add] using World.cell?_spot f0
  subst hspot
  rw [Addr.add_mid] at f0
  refine ⟨b, off, rfl, block_lt_of_cell f0, fun i hi j u hu => ?_⟩
  have := cell i hi j u hu
  rwa [Addr.add_mid, ← Nat.add_assoc] at this
def fc (x : Fl) : List Value := [.string x.key, .int .i64 x.node, .bool x.opt]
set_option maxRecDepth 100000 in
theorem trod_field {f : Nat} {cs : List Value} {x : DataW H × List MemPlace} (h : DataW.trod enc Tryz.prog W 0 (fun _ => true) true f 27 cs = some x) : ∃ y : Fl, cs = fc y ∧ y.key.size + 1 ≤ Rows.uptoBulk x.1 := by
  obtain ⟨xs, m, rfl, rfl, hl, hlen, hf⟩ := DataW.trod_struct Tryz.underlying27 h
  have hC : Tryz.prog.cellsOf 27 = 3 := by kernel_rfl
  rw [hC] at hl
  obtain ⟨c0, c1, c2, rfl⟩ : ∃ c0 c1 c2, cs = [c0, c1, c2] := by
    match cs, hl with
    | [c0, c1, c2], _ => exact ⟨c0, c1, c2, rfl⟩
  obtain ⟨y0, y1, y2, rfl⟩ : ∃ y0 y1 y2, xs = [y0, y1, y2] := by
    match xs, hlen with
    | [y0, y1, y2], _ => exact ⟨y0, y1, y2, rfl⟩
  have g0 := hf 0 _ rfl
  have g1 := hf 1 _ rfl
  have g2 := hf 2 _ rfl
  have k0 : Tryz.prog.cellsOf 3 = 1 := by kernel_rfl
  have k1 : Tryz.prog.cellsOf 4 = 1 := by kernel_rfl
  have k2 : Tryz.prog.cellsOf 9 = 1 := by kernel_rfl
  simp [k0, k1, k2] at g0 g1 g2
  obtain ⟨s, e0, rfl, _⟩ := DataW.trod_string Tryz.underlying9 g0
  obtain ⟨k, e1, rfl, _⟩ := DataW.trod_int Tryz.underlying3 g1
  obtain ⟨q, e2, rfl⟩ := DataW.trod_bool Tryz.underlying4 g2
  injection e0 with e0
  injection e1 with e1
  injection e2 with e2
  subst e0 e1 e2
  exact ⟨⟨s, k, q⟩, rfl, by simp [Rows.uptoBulk, Rows.uptoBulkAll]⟩
theorem len_bulk : ∀ (ds : List (DataW H)), (∀ d ∈ ds, 1 ≤ Rows.uptoBulk d) → ds.length ≤ Rows.uptoBulkAll ds
  | [], _ => Nat.zero_le _
  | d :: r, h => by
    have h1 := h d (by simp)
    have h2 := len_bulk r fun x hx => h x (by simp [hx])
    simp only [Rows.uptoBulkAll, List.length_cons]
    omega
instance : Inhabited Fl := ⟨⟨⟨#[]⟩, 0, false⟩⟩
instance : Inhabited Nd := ⟨Nd.of 0⟩
instance : Inhabited Pl := ⟨⟨none, 0, none, 0, none, 0⟩⟩
theorem getD_map_range {α β : Type} (g : α → β) (z : Nat → α) (len i : Nat) (d : β) (hi : i < len) : ((List.range len).map fun i => g (z i)).getD i d = g (z i) := by
  rw [List.getD_eq_getElem?_getD, List.getElem?_map, List.getElem?_range hi]
  rfl
set_option maxRecDepth 100000 in
theorem trod_fields {f : Nat} {c : Value} {x : DataW H × List MemPlace} (h : DataW.trod enc Tryz.prog W 0 (fun _ => true) true f 22 [c] = some x) :
    ∃ (fs : List Fl) (A : Option Addr) (cap : Nat), c = .slice A fs.length cap ∧ fs.length ≤ cap ∧ (A = none → cap = 0) ∧ RdF W W.heap.size A fs ∧ okF (Rows.uptoBulk x.1) fs ∧ fs.length + 1 ≤ Rows.uptoBulk x.1 := by
  have hC : Tryz.prog.cellsOf 27 = 3 := by kernel_rfl
  rcases DataW.trod_slice Tryz.underlying22 h with ⟨hcs, hy⟩ | ⟨a, len, cap, elems, rest, q, hq, hcs, hy, _, hle, hm, hel, hall, _, _⟩
  · injection hcs with hcs
    subst hcs
    rw [hy]
    exact ⟨[], none, 0, rfl, Nat.le_refl _, fun _ => rfl, RdF.nil, fun y hy => (by cases hy), by simp [Rows.uptoBulk]⟩
  · injection hcs with hcs
    subst hcs
    rw [hC] at hall
    have each : ∀ i, i < len → ∃ z : Fl × (DataW H × List MemPlace), elems[i]? = some z.2 ∧ (∃ cs', W.cells? 0 (a.add (i * 3)) 3 = some cs' ∧ cs' = fc z.1) ∧ z.1.key.size + 1 ≤ Rows.uptoBulk z.2.1 := by
      intro i hi
      have := hall i hi
      rw [List.getElem?_eq_getElem (by omega)] at this
      obtain ⟨cs', h1, h2⟩ := Option.bind_eq_some_iff.1 this
      obtain ⟨y, h3, h4⟩ := trod_field h2
      exact ⟨(y, elems[i]), List.getElem?_eq_getElem (by omega), ⟨cs', h1, h3⟩, h4⟩
    obtain ⟨z, hz⟩ := Go.Deep.choose_lt (α := Fl × (DataW H × List MemPlace)) each
    have hmem : ∀ d ∈ elems.map (·.1), ∃ i, i < len ∧ d = (z i).2.1 := fun d hd => by
      obtain ⟨e, he, rfl⟩ := List.mem_map.1 hd
      obtain ⟨i, hi⟩ := List.mem_iff_getElem?.1 he
      have hlt := (List.getElem?_eq_some_iff.1 hi).1
      refine ⟨i, by omega, ?_⟩
      have := (hz i (by omega)).1
      rw [hi] at this
      injection this with this
      rw [this]
    have hb : Rows.uptoBulkAll (elems.map (·.1)) + 1 ≤ Rows.uptoBulk x.1 := by
      rw [hy]
      simp only [Rows.uptoBulk]
      omega
    refine ⟨(List.range len).map fun i => (z i).1, some a, cap, by simp, by simpa using hle, (fun h => by cases h), fun h0 => ?_, fun y hy => ?_, ?_⟩
    · obtain ⟨b, o, rfl, hlt, hc⟩ := rows_at (W := W) (s := 3) (cells := fc) (z := fun i => (z i).1) (fun _ => rfl) (by omega) (fun i hi => (hz i hi).2.1) (by simpa using h0)
      refine ⟨b, o, rfl, hlt, hlt, fun i y hy => ?_⟩
      have hi : i < len := by have := (List.getElem?_eq_some_iff.1 hy).1; simpa using this
      rw [List.getElem?_map, List.getElem?_range hi] at hy
      injection hy with hy
      subst hy
      exact ⟨hc i hi 0 _ rfl, hc i hi 1 _ rfl, hc i hi 2 _ rfl⟩
    · obtain ⟨i, hi, rfl⟩ := List.mem_map.1 hy
      rw [List.mem_range] at hi
      have h1 := (hz i hi).2.2
      have h2 := bulk_mem (d := (z i).2.1) (ds := elems.map (·.1)) (List.mem_map.2 ⟨_, List.mem_of_getElem? (hz i hi).1, rfl⟩)
      omega
    · have h1 := len_bulk (elems.map (·.1)) fun d hd => by
        obtain ⟨i, hi, rfl⟩ := hmem d hd
        have := (hz i hi).2.2
        omega
      simp only [List.length_map, List.length_range] at h1 ⊢
      omega
set_option maxRecDepth 100000 in
theorem trod_ints {f : Nat} {c : Value} {x : DataW H × List MemPlace} (h : DataW.trod enc Tryz.prog W 0 (fun _ => true) true f 32 [c] = some x) :
    ∃ (zs : List Int) (A : Option Addr) (cap : Nat), c = .slice A zs.length cap ∧ zs.length ≤ cap ∧ (A = none → cap = 0) ∧ Rd W W.heap.size .i64 A zs ∧ zs.length + 1 ≤ Rows.uptoBulk x.1 := by
  have hC : Tryz.prog.cellsOf 3 = 1 := by kernel_rfl
  rcases DataW.trod_slice Tryz.underlying32 h with ⟨hcs, hy⟩ | ⟨a, len, cap, elems, rest, q, hq, hcs, hy, _, hle, hm, hel, hall, _, _⟩
  · injection hcs with hcs
    subst hcs
    rw [hy]
    exact ⟨[], none, 0, rfl, Nat.le_refl _, fun _ => rfl, fun h => absurd h (by simp), by simp [Rows.uptoBulk]⟩
  · injection hcs with hcs
    subst hcs
    rw [hC] at hall
    have each : ∀ i, i < len → ∃ z : Int × (DataW H × List MemPlace), elems[i]? = some z.2 ∧ (∃ cs', W.cells? 0 (a.add (i * 1)) 1 = some cs' ∧ cs' = [Value.int .i64 z.1]) ∧ 1 ≤ Rows.uptoBulk z.2.1 := by
      intro i hi
      have := hall i hi
      rw [List.getElem?_eq_getElem (by omega)] at this
      obtain ⟨cs', h1, h2⟩ := Option.bind_eq_some_iff.1 this
      obtain ⟨y, h3, h4, _⟩ := DataW.trod_int Tryz.underlying3 h2
      exact ⟨(y, elems[i]), List.getElem?_eq_getElem (by omega), ⟨cs', h1, h3⟩, by rw [h4]; exact bulk_one _⟩
    obtain ⟨z, hz⟩ := Go.Deep.choose_lt (α := Int × (DataW H × List MemPlace)) each
    have hmem : ∀ d ∈ elems.map (·.1), ∃ i, i < len ∧ d = (z i).2.1 := fun d hd => by
      obtain ⟨e, he, rfl⟩ := List.mem_map.1 hd
      obtain ⟨i, hi⟩ := List.mem_iff_getElem?.1 he
      have hlt := (List.getElem?_eq_some_iff.1 hi).1
      refine ⟨i, by omega, ?_⟩
      have := (hz i (by omega)).1
      rw [hi] at this
      injection this with this
      rw [this]
    have hb : Rows.uptoBulkAll (elems.map (·.1)) + 1 ≤ Rows.uptoBulk x.1 := by
      rw [hy]
      simp only [Rows.uptoBulk]
      omega
    refine ⟨(List.range len).map fun i => (z i).1, some a, cap, by simp, by simpa using hle, (fun h => by cases h), fun h0 => ?_, ?_⟩
    · obtain ⟨b, o, rfl, hlt, hc⟩ := rows_at (W := W) (s := 1) (cells := fun n : Int => [Value.int .i64 n]) (z := fun i => (z i).1) (fun _ => rfl) (by omega) (fun i hi => (hz i hi).2.1) (by simpa using h0)
      refine ⟨b, o, rfl, hlt, fun i hi => ?_⟩
      have hi : i < len := by simpa using hi
      rw [getD_map_range (fun y : Int × (DataW H × List MemPlace) => y.1) z len i 0 hi]
      simpa using hc i hi 0 _ rfl
    · have h1 := len_bulk (elems.map (·.1)) fun d hd => by
        obtain ⟨i, hi, rfl⟩ := hmem d hd
        exact (hz i hi).2.2
      simp only [List.length_map, List.length_range] at h1 ⊢
      omega
/-- Bounds of a node that came in. -/
def okX (N : Nat) (x : Nd) : Prop := okI N x.v ∧ okF N x.f ∧ x.l.length + x.f.length ≤ N
theorem okI_up {N N' : Nat} {t : It} (h : okI N t) (hN : N ≤ N') : okI N' t := ⟨Nat.le_trans h.1 hN, fun d p hp => ⟨(h.2 d p hp).1, (h.2 d p hp).2.1, Nat.le_trans (h.2 d p hp).2.2 hN⟩⟩
theorem okX.up {N N' : Nat} {x : Nd} (h : okX N x) (hN : N ≤ N') : okX N' x := ⟨okI_up h.1 hN, fun y hy => Nat.le_trans (h.2.1 y hy) hN, Nat.le_trans h.2.2 hN⟩
theorem okX.ok {N : Nat} {x : Nd} (h : okX N x) (hN : N ≤ 1048576) : okN x := ⟨(h.up hN).1, (h.up hN).2.1, Nat.le_trans (h.up hN).2.2 (by decide)⟩
set_option maxRecDepth 100000 in
theorem trod_node {f : Nat} {cs : List Value} {x : DataW H × List MemPlace} (h : DataW.trod enc Tryz.prog W 0 (fun _ => true) true f 34 cs = some x) :
    ∃ (y : Nd) (p : Pl), cs = (nc y p).toList ∧ NdB W W.heap.size y p ∧ okX (Rows.uptoBulk x.1) y ∧ 1 ≤ Rows.uptoBulk x.1 := by
  obtain ⟨xs, m, rfl, rfl, hl, hlen, hf⟩ := DataW.trod_struct Tryz.underlying34 h
  have hC : Tryz.prog.cellsOf 34 = 9 := by kernel_rfl
  rw [hC] at hl
  obtain ⟨c0, c1, c2, c3, c4, c5, c6, c7, c8, rfl⟩ : ∃ c0 c1 c2 c3 c4 c5 c6 c7 c8, cs = [c0, c1, c2, c3, c4, c5, c6, c7, c8] := by
    match cs, hl with
    | [c0, c1, c2, c3, c4, c5, c6, c7, c8], _ => exact ⟨c0, c1, c2, c3, c4, c5, c6, c7, c8, rfl⟩
  obtain ⟨y0, y1, y2, y3, y4, y5, rfl⟩ : ∃ y0 y1 y2 y3 y4 y5, xs = [y0, y1, y2, y3, y4, y5] := by
    match xs, hlen with
    | [y0, y1, y2, y3, y4, y5], _ => exact ⟨y0, y1, y2, y3, y4, y5, rfl⟩
  have g0 := hf 0 _ rfl
  have g1 := hf 1 _ rfl
  have g2 := hf 2 _ rfl
  have g3 := hf 3 _ rfl
  have g4 := hf 4 _ rfl
  have g5 := hf 5 _ rfl
  have k0 : Tryz.prog.cellsOf 3 = 1 := by kernel_rfl
  have k1 : Tryz.prog.cellsOf 31 = 4 := by kernel_rfl
  have k2 : Tryz.prog.cellsOf 32 = 1 := by kernel_rfl
  have k3 : Tryz.prog.cellsOf 22 = 1 := by kernel_rfl
  simp [k0, k1, k2, k3] at g0 g1 g2 g3 g4 g5
  obtain ⟨k, e0, rfl, _⟩ := DataW.trod_int Tryz.underlying3 g0
  obtain ⟨lo, e1, rfl, _⟩ := DataW.trod_int Tryz.underlying3 g1
  obtain ⟨hi, e2, rfl, _⟩ := DataW.trod_int Tryz.underlying3 g2
  obtain ⟨v, Av, cv, e3, hv, hov⟩ := trod_item _ _ _ g3
  obtain ⟨zs, Al, cl, e4, hll, hln, hl4, hbl⟩ := trod_ints g4
  obtain ⟨fs, Af, cf, e5, hfl, hfn, hf5, hok, hbf⟩ := trod_fields g5
  injection e0 with e0
  injection e1 with e1
  injection e2 with e2
  subst e0 e1 e2
  simp only [ic, List.cons.injEq, and_true] at e3
  obtain ⟨rfl, rfl, rfl, rfl⟩ := e3
  subst e4 e5
  have hb : Rows.uptoBulk (DataW.agg (H := H) [.lit (.int .i64 k), .lit (.int .i64 lo), .lit (.int .i64 hi), y3.1, y4.1, y5.1]) = Rows.uptoBulk y3.1 + Rows.uptoBulk y4.1 + Rows.uptoBulk y5.1 + 4 := by
    simp [Rows.uptoBulk, Rows.uptoBulkAll]
    omega
  refine ⟨⟨k, lo, hi, v, zs, fs⟩, ⟨Av, cv, Al, cl, Af, cf⟩, rfl, ⟨hv.toB, hl4, hll, hln, hf5, hfl, hfn⟩, ?_, ?_⟩
  · simp only [List.map_cons, List.map_nil]
    rw [hb]
    exact ⟨okI_up hov (by omega), fun y hy => Nat.le_trans (hok y hy) (by omega), by show zs.length + fs.length ≤ _; omega⟩
  · simp only [List.map_cons, List.map_nil]
    rw [hb]
    omega
set_option maxRecDepth 100000 in
theorem trod_nodes {f : Nat} {c : Value} {x : DataW H × List MemPlace} (h : DataW.trod enc Tryz.prog W 0 (fun _ => true) true f 40 [c] = some x) :
    ∃ (xs : List Nd) (A : Option Addr) (cap : Nat), c = .slice A xs.length cap ∧ RdN W W.heap.size A xs ∧ (∀ y ∈ xs, okX (Rows.uptoBulk x.1) y) ∧ xs.length + 1 ≤ Rows.uptoBulk x.1 := by
  have hC : Tryz.prog.cellsOf 34 = 9 := by kernel_rfl
  rcases DataW.trod_slice Tryz.underlying40 h with ⟨hcs, hy⟩ | ⟨a, len, cap, elems, rest, q, hq, hcs, hy, _, hle, hm, hel, hall, _, _⟩
  · injection hcs with hcs
    subst hcs
    rw [hy]
    exact ⟨[], none, 0, rfl, fun h => absurd h (by simp), fun y hy => (by cases hy), by simp [Rows.uptoBulk]⟩
  · injection hcs with hcs
    subst hcs
    rw [hC] at hall
    have each : ∀ i, i < len → ∃ z : Nd × Pl × (DataW H × List MemPlace), elems[i]? = some z.2.2 ∧ (∃ cs', W.cells? 0 (a.add (i * 9)) 9 = some cs' ∧ cs' = (nc z.1 z.2.1).toList) ∧ NdB W W.heap.size z.1 z.2.1 ∧ okX (Rows.uptoBulk z.2.2.1) z.1 ∧ 1 ≤ Rows.uptoBulk z.2.2.1 := by
      intro i hi
      have := hall i hi
      rw [List.getElem?_eq_getElem (by omega)] at this
      obtain ⟨cs', h1, h2⟩ := Option.bind_eq_some_iff.1 this
      obtain ⟨y, p, h3, h4, h5, h6⟩ := trod_node h2
      exact ⟨(y, p, elems[i]), List.getElem?_eq_getElem (by omega), ⟨cs', h1, h3⟩, h4, h5, h6⟩
    obtain ⟨z, hz⟩ := Go.Deep.choose_lt (α := Nd × Pl × (DataW H × List MemPlace)) each
    have hmem : ∀ d ∈ elems.map (·.1), ∃ i, i < len ∧ d = (z i).2.2.1 := fun d hd => by
      obtain ⟨e, he, rfl⟩ := List.mem_map.1 hd
      obtain ⟨i, hi⟩ := List.mem_iff_getElem?.1 he
      have hlt := (List.getElem?_eq_some_iff.1 hi).1
      refine ⟨i, by omega, ?_⟩
      have := (hz i (by omega)).1
      rw [hi] at this
      injection this with this
      rw [this]
    have hb : Rows.uptoBulkAll (elems.map (·.1)) + 1 ≤ Rows.uptoBulk x.1 := by
      rw [hy]
      simp only [Rows.uptoBulk]
      omega
    refine ⟨(List.range len).map fun i => (z i).1, some a, cap, by simp, fun h0 => ?_, fun y hy => ?_, ?_⟩
    · obtain ⟨b, o, rfl, hlt, hc⟩ := rows_at (W := W) (s := 9) (cells := fun y : Nd × Pl => (nc y.1 y.2).toList) (z := fun i => ((z i).1, (z i).2.1)) (fun _ => rfl) (by omega) (fun i hi => (hz i hi).2.1) (by simpa using h0)
      refine ⟨b, o, rfl, hlt, hlt, fun i y hy => ?_⟩
      have hi : i < len := by have := (List.getElem?_eq_some_iff.1 hy).1; simpa using this
      rw [List.getElem?_map, List.getElem?_range hi] at hy
      injection hy with hy
      subst hy
      exact ⟨(z i).2.1, (hz i hi).2.2.1, fun j u hu => hc i hi j u (by simpa using hu)⟩
    · obtain ⟨i, hi, rfl⟩ := List.mem_map.1 hy
      rw [List.mem_range] at hi
      have h1 := (hz i hi).2.2.2.1
      have h2 := bulk_mem (d := (z i).2.2.1) (ds := elems.map (·.1)) (List.mem_map.2 ⟨_, List.mem_of_getElem? (hz i hi).1, rfl⟩)
      exact h1.up (by omega)
    · have h1 := len_bulk (elems.map (·.1)) fun d hd => by
        obtain ⟨i, hi, rfl⟩ := hmem d hd
        exact (hz i hi).2.2.2.2
      simp only [List.length_map, List.length_range] at h1 ⊢
      omega
set_option maxRecDepth 100000 in
/-- A schema among the arguments. -/
theorem open_schema {b0 : Nat} {v : Value} {d : DataW H} {ps : List MemPlace} (hval : Value.okWide Tryz.prog W .any b0 42 v) (hd : DataW.Trod enc Tryz.prog W 0 (fun _ => true) true 42 v d ps) (hN : Rows.uptoBulk d ≤ 1048576) :
    ∃ xs A cap, v = vS A xs cap ∧ RdN W W.heap.size A xs ∧ (∀ y ∈ xs, okN y) ∧ xs.length ≤ 1048576 := by
  obtain ⟨cs, rfl, _⟩ := okWide_struct Tryz.underlying42 hval
  obtain ⟨fuel, hf⟩ := hd
  obtain ⟨xs, m, e1, e2, hl, hlen, hg⟩ := DataW.trod_struct Tryz.underlying42 hf
  have hC : Tryz.prog.cellsOf 42 = 1 := by kernel_rfl
  rw [hC] at hl
  obtain ⟨c0, hc⟩ : ∃ c0, cs = #[c0] := by
    have hl' : cs.toList.length = 1 := by simpa [Value.cells] using hl
    match h : cs.toList, hl' with
    | [c0], _ => exact ⟨c0, by apply Array.ext'; rw [h]⟩
  subst hc
  obtain ⟨y0, rfl⟩ : ∃ y0, xs = [y0] := by
    match xs, hlen with
    | [y0], _ => exact ⟨y0, rfl⟩
  have g0 := hg 0 _ rfl
  have k0 : Tryz.prog.cellsOf 40 = 1 := by kernel_rfl
  simp [k0, Value.cells] at g0
  obtain ⟨zs, A, cap, rfl, h1, h2, h3⟩ := trod_nodes g0
  have hb : Rows.uptoBulk d = Rows.uptoBulk y0.1 + 1 := by
    have : d = DataW.agg [y0.1] := by simpa using congrArg Prod.fst e2
    rw [this]
    simp [Rows.uptoBulk, Rows.uptoBulkAll]
  exact ⟨zs, A, cap, rfl, h1, fun y hy => (h2 y hy).ok (by omega), by omega⟩
end
end Go.Proofs.YtgbbgdjdomkohaaGreat

/- Fields, keyed fields in memory: what the sort's walk carries. -/
namespace Go.Proofs.YtgbbgdjdomkohaaGreat
open Go.RowKit Go.Sort

theorem infoField : (Tryz.prog.info? 27).map (fun i => (i.zero, i.size, i.bytes)) = some (some (.agg #[.string ⟨#[]⟩, .int .i64 0, .bool false]), 3, 32) := by kernel_rfl
theorem infoKeyed : (Tryz.prog.info? 49).map (fun i => (i.zero, i.size, i.bytes)) = some (some (.agg #[.slice none 0 0, .string ⟨#[]⟩, .int .i64 0, .bool false]), 4, 56) := by kernel_rfl
theorem fc_one (l : List Fl) : ∀ u ∈ l.flatMap fc, u.oneCell' = true := by
  intro u hu
  obtain ⟨x, _, hx⟩ := List.mem_flatMap.1 hu
  simp only [fc, List.mem_cons, List.not_mem_nil, or_false] at hx
  rcases hx with rfl | rfl | rfl <;> rfl
theorem fc_len (l : List Fl) : (l.flatMap fc).length = l.length * 3 := by
  induction l with
  | nil => rfl
  | cons x l ih => rw [List.flatMap_cons, List.length_append, ih, List.length_cons]; simp [fc]; omega
theorem flat_at {α : Type} {s : Nat} {c : α → List Value} (hs : ∀ x, (c x).length = s) : ∀ (l : List α) (i : Nat) (x : α) (j : Nat), l[i]? = some x → j < s → (l.flatMap c)[i * s + j]? = (c x)[j]?
  | [], i, x, j, h, _ => by simp at h
  | y :: l, 0, x, j, h, hj => by
    have : y = x := by simpa using h
    subst this
    rw [List.flatMap_cons, List.getElem?_append_left (by rw [hs]; omega)]
    congr 1; omega
  | y :: l, i + 1, x, j, h, hj => by
    rw [List.flatMap_cons, List.getElem?_append_right (by rw [hs, Nat.succ_mul]; omega), hs]
    have := flat_at hs l i x j (by simpa using h) hj
    rw [← this]
    congr 1
    rw [Nat.succ_mul]; omega
theorem flat_take {α : Type} {s : Nat} {c : α → List Value} (hs : ∀ x, (c x).length = s) (l : List α) (k : Nat) : (l.flatMap c).take (k * s) = (l.take k).flatMap c := by
  induction k generalizing l with
  | zero => simp
  | succ k ih =>
    cases l with
    | nil => simp
    | cons x l => rw [List.flatMap_cons, List.take_succ_cons, List.flatMap_cons, ← ih l, List.take_append, hs, List.take_of_length_le (by rw [hs, Nat.succ_mul]; omega), Nat.succ_mul, Nat.add_sub_cancel]
theorem flat_drop {α : Type} {s : Nat} {c : α → List Value} (hs : ∀ x, (c x).length = s) (l : List α) (k : Nat) : (l.flatMap c).drop (k * s) = (l.drop k).flatMap c := by
  induction k generalizing l with
  | zero => simp
  | succ k ih =>
    cases l with
    | nil => simp
    | cons x l => rw [List.flatMap_cons, List.drop_succ_cons, ← ih l, List.drop_append, hs, List.drop_of_length_le (by rw [hs, Nat.succ_mul]; omega), Nat.succ_mul, Nat.add_sub_cancel, List.nil_append]
/-- A field with its key's encoding: where that lies. -/
structure KP where
  f : Fl
  A : Option Addr
  cap : Nat
def pc (p : KP) : List Value := [.slice p.A (codeL 2 p.f.key).length p.cap, .string p.f.key, .int .i64 p.f.node, .bool p.f.opt]
theorem pc_len (p : KP) : (pc p).length = 4 := rfl
theorem pc_one (p : KP) : ∀ u ∈ pc p, u.oneCell' = true := by
  intro u hu
  simp only [pc, List.mem_cons, List.not_mem_nil, or_false] at hu
  rcases hu with rfl | rfl | rfl | rfl <;> rfl
section
variable {w w' : World} {B B' g n s : Nat} {k : IntKind} {e e' : TypeId} {v v' : Value} {zs : List Int} {cs : List Value}
theorem row_blk {cap m : Nat} {A : Option Addr} {b : Nat} (h : w.ownsRow B e s (.slice A m cap) n cs) (hA : A.map (·.block) = some b) : ∃ cur, Blk w b e cur := by
  obtain ⟨A', cap', hv, _, _, _, h4⟩ := oc_form h
  injection hv with e1 e2 e3
  subst e1 e2 e3
  cases A with
  | none => cases hA
  | some p =>
    obtain ⟨g, rfl, _, _⟩ := h4 p rfl
    injection hA with hA
    subst hA
    obtain ⟨cur, h1, _⟩ := oc_blk h
    exact ⟨cur, h1⟩
theorem blk_type {cs cs' : Array Value} (h : Blk w g e cs) (h' : Blk w g e' cs') : e = e' := by
  unfold Blk at h h'
  rw [h] at h'
  injection h' with h'
  injection h'
/-- Numbers stay while a row of another type grows. -/
theorem own_grown (h : Own w B k e v zs) (hr : w.ownsRow B' e' s v' n cs) (ht : e ≠ e') (hg : w.grownBy w' v'.ownBlock) (hp : 0 < zs.length) : Own w' B k e v zs := by
  obtain ⟨b, cap, rfl⟩ := h.head hp
  obtain ⟨A', cap', hv, _⟩ := oc_form hr
  subst hv
  have hne : (Value.slice (some ⟨b, 0, none⟩) zs.length cap).ownBlock ≠ (Value.slice A' n cap').ownBlock := fun e0 => by
    have hA : A'.map (·.block) = some b := by
      cases A' with
      | none => cases e0
      | some p => simpa [Value.ownBlock] using e0.symm
    obtain ⟨c1, x1⟩ := row_blk hr hA
    obtain ⟨c2, x2⟩ := row_blk (b := b) h rfl
    exact ht (blk_type x2 x1)
  exact World.ownsRow.kept h hg (.inr hne)
theorem own_rdx {A : Option Addr} {m cap : Nat} {b : Nat} {cur : Array Value} (h : Own w B k e (.slice A m cap) zs) (hb : Blk w b e' cur) (ht : e ≠ e') : RdX w b k A zs := by
  obtain ⟨A', cap', hv, _, _, _, h4, hr⟩ := h.form
  injection hv with e1 e2 e3
  subst e1 e2 e3
  intro hn
  obtain ⟨b', o, rfl, h5, h6⟩ := hr hn
  refine ⟨b', o, rfl, fun e0 => ?_, h5, h6⟩
  subst e0
  obtain ⟨c2, x2⟩ := row_blk (b := b') h rfl
  exact ht (blk_type x2 hb)
end
theorem lay_ke {w : World} {g : Nat} : ∀ (ps : List KP), (∀ p ∈ ps, RdX w g .u8 p.A (codeL 2 p.f.key)) → ∃ l : List (KE w g), l.flatMap kenc = ps.flatMap pc ∧ l.map (fun x => (x.L, x.f)) = ps.map (fun p => (codeL 2 p.f.key, p.f))
  | [], _ => ⟨[], rfl, rfl⟩
  | p :: ps, h => by
    obtain ⟨l, e1, e2⟩ := lay_ke ps fun q hq => h q (List.mem_cons_of_mem _ hq)
    exact ⟨⟨p.f, codeL 2 p.f.key, p.A, p.cap, h p (List.mem_cons_self ..), byte_code ⟨by omega, by omega⟩ p.f.key⟩ :: l, by rw [List.flatMap_cons, e1, List.flatMap_cons]; rfl, by rw [List.map_cons, e2, List.map_cons]⟩
/-- Which of two fields goes ahead. -/
def ltF (a b : Fl) : Bool := keyLt a.key b.key
theorem sorted_fields {w : World} {g : Nat} {l : List (KE w g)} {fs : List Fl} (h : l.map (fun x => (x.L, x.f)) = fs.map (fun f => (codeL 2 f.key, f))) : (insS (Go.Proofs.ltOf kcf) l).map KE.f = insS ltF fs := by
  have h1 := insS_map (lt := Go.Proofs.ltOf kcf) (lt' := fun p q : List Int × Fl => decide (seqC intC p.1 q.1 < 0)) (fun x : KE w g => (x.L, x.f)) (fun a b => rfl) l
  have h2 := insS_map (lt := ltF) (lt' := fun p q : List Int × Fl => decide (seqC intC p.1 q.1 < 0)) (fun f : Fl => (codeL 2 f.key, f)) (fun a b => by
    show ahead _ _ = _
    unfold ahead
    rw [codeL_cmp]) fs
  rw [h, ← h2] at h1
  have h3 := congrArg (List.map Prod.snd) h1
  simpa [List.map_map, Function.comp_def] using h3
end Go.Proofs.YtgbbgdjdomkohaaGreat

/- Package schema: Sorted, of 20 fields or fewer. -/
namespace Go.Proofs.YtgbbgdjdomkohaaGreat
open Go.RowKit Go.Sort

/-- What the first loop has gathered. -/
structure Gath (w1 W : World) (v : Value) (k : Nat) (fs : List Fl) (ps : List KP) : Prop where
  len : ps.length = k
  fld : ps.map KP.f = fs.take k
  row : W.ownsRow w1.heap.size 49 4 v k (ps.flatMap pc)
  own : ∀ p ∈ ps, Own W w1.heap.size .u8 5 (.slice p.A (codeL 2 p.f.key).length p.cap) (codeL 2 p.f.key)
theorem Gath.start (w1 : World) (fs : List Fl) : Gath w1 w1 (.slice none 0 0) 0 fs [] := ⟨rfl, rfl, World.ownsRow_nil _ _ _ _, fun p hp => by cases hp⟩
theorem Gath.on {w1 W W' : World} {v : Value} {k : Nat} {fs : List Fl} {ps : List KP} (h : Gath w1 W v k fs ps) (hb : Below W.heap.size W W') : Gath w1 W' v k fs ps := ⟨h.len, h.fld, oc_on h.row hb, fun p hp => (h.own p hp).below hb⟩
/-- One more. -/
theorem Gath.next {w1 W W' : World} {v v' : Value} {k : Nat} {fs : List Fl} {ps : List KP} {fd : Fl} {g cap : Nat} (h : Gath w1 W v k fs ps) (hf : fs[k]? = some fd) (ho : Own W w1.heap.size .u8 5 (.slice (some ⟨g, 0, none⟩) (codeL 2 fd.key).length cap) (codeL 2 fd.key))
    (hr : W'.ownsRow w1.heap.size 49 4 v' (k + 1) (ps.flatMap pc ++ pc ⟨fd, some ⟨g, 0, none⟩, cap⟩)) (hg : W.grownBy W' v.ownBlock) : Gath w1 W' v' (k + 1) fs (ps ++ [⟨fd, some ⟨g, 0, none⟩, cap⟩]) := by
  refine ⟨by simp [h.len], ?_, by rw [List.flatMap_append]; simpa using hr, fun p hp => ?_⟩
  · have := take_map_snoc (fun x : Fl => x) hf
    simp only [List.map_id'] at this
    rw [List.map_append, h.fld, this]
    rfl
  · have hp' : p ∈ ps ∨ p = ⟨fd, some ⟨g, 0, none⟩, cap⟩ := by simpa using hp
    rcases hp' with hp | rfl
    · exact own_grown (h.own p hp) h.row (by decide) hg (codeL_pos _ _)
    · exact own_grown ho h.row (by decide) hg (codeL_pos _ _)

theorem fblk {w : World} {g : Nat} {t : TypeId} {a b c : Value} (h : Blk w g t #[a, b, c]) : w.cell? ⟨g, 0, none⟩ = some a ∧ w.cell? ⟨g, 1, none⟩ = some b ∧ w.cell? ⟨g, 2, none⟩ = some c :=
  ⟨by rw [h.cell]; rfl, by rw [h.cell]; rfl, by rw [h.cell]; rfl⟩
set_option maxRecDepth 100000 in
set_option maxHeartbeats 8000000 in
theorem sch_Sorted (x : Nd) (p : Pl) (n : Nat) (w : World) (hn : n ≤ w.heap.size) (hx : NdB w n x p) (hok : okF 1048576 x.f) (hm : x.f.length ≤ 20) :
    Calls Tryz.prog 6 #[vN x p] w fun e w' => (∃ v, e = .returned v ∧ w'.ownsRow w.heap.size 27 3 v x.f.length ((insS ltF x.f).flatMap fc)) ∧ Below w.heap.size w w' := by
  obtain ⟨Av, cv, Al, cl, Af, cf⟩ := p
  have b1 := Blk.fresh w 34 (nc x ⟨Av, cv, Al, cl, Af, cf⟩)
  have S := below_alloc w (.cells (nc x ⟨Av, cv, Al, cl, Af, cf⟩) 34)
  obtain ⟨w1, hw1⟩ : ∃ w1, w.alloc (.cells (nc x ⟨Av, cv, Al, cl, Af, cf⟩) 34) = w1 := ⟨_, rfl⟩
  rw [hw1] at b1 S
  have HF : Hid (∀ W, Below w.heap.size w W → RdF W n Af x.f) := Lib.hid fun W hW => hx.f.keep (hW.mono hn)
  have HS := Lib.hid S
  have HOK := Lib.hid hok
  unfold nc at b1 hw1
  obtain ⟨p0, p1, p2, p3, p4, p5, p6, p7, p8⟩ := nblk b1
  simp only [vN] at *
  generalize x.f = fs at *
  obtain ⟨m, hml⟩ : ∃ m, fs.length = m := ⟨_, rfl⟩
  rw [hml] at p8 hw1 hm ⊢
  have HM := Lib.hid hml
  have HUP : Hid (∀ W, Below w1.heap.size w1 W → Below w.heap.size w W) := Lib.hid fun W hW => S.trans (hW.mono S.size)
  have hmb : (m : Int) ≤ 20 := by omega
  clear S b1 hx hn hok hml
  go_enter Tryz.func6, Tryz.ntmps6
  go_wp2_with fail
  clear p0 p1 p2 p3 p4 p5 p6 p7 p8 hw1
  go_loopw [3, 12] (fun v i wr => ∃ (k : Nat) (ps : List KP), k ≤ m ∧ i = .int .i64 (k : Int) ∧ Hid (Below w1.heap.size w1 wr) ∧ Hid (Gath w1 wr v k fs ps)) (fun _ i _ => m - (intOf i).toNat)
  case atStart => exact ⟨0, [], by omega, rfl, Lib.hid (Below.refl _ _), Lib.hid (Gath.start _ _)⟩
  case round =>
    obtain ⟨k, ps, hk, rfl, HBr, HG⟩ := hrel
    by_cases hlt : k < m
    · obtain ⟨b, o, fd, rfl, -, -, X, c0, c1, c2⟩ := (HF.out wr (HUP.out _ HBr.out)).get (i := k) (by rw [HM.out]; exact hlt)
      have HX := Lib.hid X
      have HEN := Lib.hid (fun W => sch_encoded fd.key (HOK.out fd (List.mem_of_getElem? X)) W)
      obtain ⟨wf, hwf⟩ : ∃ wf, wr.alloc (.cells #[.string fd.key, .int .i64 fd.node, .bool fd.opt] 27) = wf := ⟨_, rfl⟩
      have bf := Blk.fresh wr 27 #[.string fd.key, .int .i64 fd.node, .bool fd.opt]
      have Sf := below_alloc wr (.cells #[.string fd.key, .int .i64 fd.node, .bool fd.opt] 27)
      rw [hwf] at bf Sf
      have HKP : Hid (∀ W, Below wf.heap.size wf W → W.cell? ⟨wr.heap.size, 0, none⟩ = some (.string fd.key) ∧ W.cell? ⟨wr.heap.size, 1, none⟩ = some (.int .i64 fd.node) ∧ W.cell? ⟨wr.heap.size, 2, none⟩ = some (.bool fd.opt)) := Lib.hid fun W hW =>
        ⟨by rw [(bf.on hW).cell]; rfl, by rw [(bf.on hW).cell]; rfl, by rw [(bf.on hW).cell]; rfl⟩
      have HBF := Lib.hid bf
      have HGf := Lib.hid (HG.out.on Sf)
      have HB1f := Lib.hid (HBr.out.trans (Sf.mono HBr.out.size))
      clear X bf Sf
      have HBW := Lib.hid (show Below wf.heap.size wf wf.drew from below_drawn (Below.refl _ _))
      have cS := HKP.out wf.drew HBW.out
      obtain ⟨e0, e1, e2⟩ := HKP.out wf (Below.refl _ _)
      go_wp2_with fail
      clear e0 e1 e2 c0 c1 c2
      go_region_held3 (fun W => W.cell? ⟨wr.heap.size, 0, none⟩ = some (.string fd.key) ∧ W.cell? ⟨wr.heap.size, 1, none⟩ = some (.int .i64 fd.node) ∧ W.cell? ⟨wr.heap.size, 2, none⟩ = some (.bool fd.opt)) (first | go_keep | exact cS | exact cQ) ((first
        | (go_at_call 10; refine (HEN.out _).mono ?_; rintro e7 w7 ⟨⟨v7, rfl, hO⟩, hb7⟩; obtain ⟨g7, c7, rfl⟩ := hO.head (codeL_pos _ _); have HB7 := Lib.hid (HBW.out.trans (hb7.mono HBW.out.size)); have HO7 := Lib.hid (hO.mono (B' := w1.heap.size) (Nat.le_trans HB1f.out.size (by have := HBW.out.size; exact this))); have HG7 := Lib.hid (HGf.out.on HB7.out); have cS := HKP.out w7 HB7.out; have cQ := HKP.out (w7.alloc (.cells #[.slice (some ⟨g7, 0, none⟩) (codeL 2 fd.key).length c7, .string fd.key, .int .i64 fd.node, .bool fd.opt] 49)) (HB7.out.alloc HB7.out.size _); clear hO hb7)
        | (refine step_append_rowK (t := 45) (e := 49) (k := 4) (bytes := 56) (z := .agg #[.slice none 0 0, .string ⟨#[]⟩, .int .i64 0, .bool false]) (B := w1.heap.size) (n := k) (m := 1) (cs := ps.flatMap pc) (xs := pc ⟨fd, some ⟨g7, 0, none⟩, c7⟩) rfl rfl rfl rfl Tryz.underlying45 infoKeyed rfl (by decide) (by decide) (oc_alloc HG7.out.row _) (rdk_blk (Blk.fresh w7 49 (pc ⟨fd, some ⟨g7, 0, none⟩, c7⟩).toArray) rfl) (pc_one _) (by omega) (by have := HB1f.out.size; have := HB7.out.size; simp; omega) ?_;
           intro v8 w8 h1 h2 h3; have HN8 := Lib.hid ((HG7.out.on (below_alloc w7 _)).next HX.out (HO7.out.alloc _) h1 h3); have HB8 := Lib.hid (HB1f.out.trans (((HB7.out.alloc HB7.out.size _).mono HB1f.out.size).trans h2)); have cS := fblk (blk_grown ((HBF.out.on HB7.out).alloc _) (oc_alloc HG7.out.row _) (by decide) h3); clear h1 h2 h3)
        | fail))
      all_goals
        clear cS
        go_wp2_with fail
        go_roundw
        case rel => exact ⟨k + 1, _, by omega, by simp, HB8, HN8⟩
        case measure => simp [intOf]; omega
    · obtain rfl : k = m := by omega
      obtain ⟨A3, cap3, rfl, -, -, -, -⟩ := oc_form HG.out.row
      clear hlt hk
      by_cases h0 : k = 0
      · subst h0
        have HFS : Hid (insS ltF fs = []) := Lib.hid (by rw [List.length_eq_zero_iff.1 HM.out]; rfl)
        have HST := Lib.hid (fun W => run_stable_none A3 cap3 W)
        go_wp2_with (first
          | (go_at_call 11; refine (HST.out _).mono ?_; rintro e w' ⟨rfl, rfl⟩)
          | fail)
        refine wp_loop_rounds 1 ?_
        rw [rounds_succ]
        go_wp2_with fail
        go_ret
        exact ⟨⟨_, rfl, by rw [HFS.out]; exact World.ownsRow_nil _ _ _ _⟩, HUP.out _ HBr.out⟩
      · obtain ⟨g, cap, hv, -, -, hBg, hgw⟩ := oc_head HG.out.row (by omega)
        injection hv with e1 _ e3
        subst e1 e3
        obtain ⟨cur, hcur⟩ := row_blk (b := g) HG.out.row rfl
        obtain ⟨l, e1, e2⟩ := lay_ke (w := wr) (g := g) ps fun q hq => own_rdx (HG.out.own q hq) hcur (by decide)
        have hll : l.length = k := by have := congrArg List.length e2; simp only [List.length_map] at this; rw [this, HG.out.len]
        have hrow : wr.ownsRow w1.heap.size 49 4 (.slice (some ⟨g, 0, none⟩) k cap3) l.length (l.flatMap kenc) := by rw [e1, hll]; exact HG.out.row
        have hST := run_stable l cap3 k wr (Only.refl g wr) (holds_ke hrow) hgw hll hm
        have hFS : (insS (Go.Proofs.ltOf kcf) l).map KE.f = insS ltF fs := sorted_fields (by
          rw [e2]
          have hps : ps.map (fun p => (codeL 2 p.f.key, p.f)) = (ps.map KP.f).map (fun f => (codeL 2 f.key, f)) := by rw [List.map_map]; rfl
          rw [hps, HG.out.fld, ← HM.out, List.take_length])
        have hRl : (insS (Go.Proofs.ltOf kcf) l).length = k := by rw [insS_length]; exact hll
        have HST := Lib.hid hST
        clear hST hrow e1 e2 hll hcur
        generalize insS (Go.Proofs.ltOf kcf) l = R at *
        generalize hFE : insS ltF fs = FS at *
        have HFE := Lib.hid hFE
        clear hFE
        have HFS := Lib.hid hFS
        have HRL := Lib.hid hRl
        have HGB := Lib.hid (And.intro hBg hgw)
        clear hFS hRl hBg hgw
        go_wp2_with (first
          | (go_at_call 11; refine HST.out.mono ?_; rintro e w9 ⟨rfl, ho9, hl9⟩; have HO9 := Lib.hid ho9; have HL9 := Lib.hid hl9; clear ho9 hl9)
          | fail)
        have HB9 : Hid (Below w1.heap.size w1 w9) := Lib.hid (HBr.out.trans (HO9.out.below HGB.out.1 HBr.out.size))
        have HCE : Hid (∀ W, Below w9.heap.size w9 W → ∀ (j : Nat) (y : KE wr g), R[j]? = some y → W.cell? ⟨g, j * 4, none⟩ = some (.slice y.A y.L.length y.cap) ∧ W.cell? ⟨g, j * 4 + 1, none⟩ = some (.string y.f.key) ∧ W.cell? ⟨g, j * 4 + 2, none⟩ = some (.int .i64 y.f.node) ∧ W.cell? ⟨g, j * 4 + 3, none⟩ = some (.bool y.f.opt)) := Lib.hid fun W hW j y hy => by
          obtain ⟨z0, z1, z2, z3⟩ := HL9.out.cells hy
          have hgl : g < w9.heap.size := Nat.lt_of_lt_of_le HGB.out.2 HO9.out.size
          exact ⟨(hW.cell (p := ⟨g, _, none⟩) hgl).trans z0, (hW.cell (p := ⟨g, _, none⟩) hgl).trans z1, (hW.cell (p := ⟨g, _, none⟩) hgl).trans z2, (hW.cell (p := ⟨g, _, none⟩) hgl).trans z3⟩
        have HFL : Hid (FS.length = k) := Lib.hid (by rw [← HFS.out, List.length_map, HRL.out])
        have hkb : (k : Int) ≤ 20 := by omega
        obtain ⟨wo, rfl⟩ : ∃ wo, wo = wr := ⟨_, rfl⟩
        go_loopw [6, 29] (fun v i wr => ∃ j : Nat, j ≤ k ∧ i = .int .i64 (j : Int) ∧ Hid (Below w9.heap.size w9 wr) ∧ Hid (wr.ownsRow w9.heap.size 27 3 v j ((FS.take j).flatMap fc))) (fun _ i _ => k - (intOf i).toNat)
        case atStart => exact ⟨0, by omega, rfl, Lib.hid (Below.refl _ _), Lib.hid (World.ownsRow_nil _ _ _ _)⟩
        case round =>
          obtain ⟨j, hj, rfl, HBj, HOj⟩ := hrel
          by_cases hjk : j < k
          · obtain ⟨y, hy⟩ : ∃ y, R[j]? = some y := ⟨_, List.getElem?_eq_getElem (by rw [HRL.out]; exact hjk)⟩
            obtain ⟨z0, z1, z2, z3⟩ := HCE.out wr HBj.out j y hy
            have hfy : FS[j]? = some y.f := by rw [← HFS.out, List.getElem?_map, hy]; rfl
            have OW := oc_alloc (oc_alloc HOj.out (.cells #[.slice y.A y.L.length y.cap, .string y.f.key, .int .i64 y.f.node, .bool y.f.opt] 49)) (.cells #[.string y.f.key, .int .i64 y.f.node, .bool y.f.opt] 27)
            have bN := Blk.freshAt (wr.alloc (.cells #[.slice y.A y.L.length y.cap, .string y.f.key, .int .i64 y.f.node, .bool y.f.opt] 49)) 27 #[.string y.f.key, .int .i64 y.f.node, .bool y.f.opt] (wr.heap.size + 1) (by simp)
            obtain ⟨v', w', hR, hO', hB', -, -⟩ := run_append_rowK (P := Tryz.prog) (t := 22) (ty := 22) (s := 3) (m := 1) Tryz.underlying22 infoField rfl (by decide) (by decide) OW (rdk_blk (c := 1) bN rfl) (fun u hu => by
              simp only [List.mem_cons, List.not_mem_nil, or_false] at hu
              rcases hu with rfl | rfl | rfl <;> rfl) (by omega) (by have := HBj.out.size; simp; omega)
            have HR := Lib.hid hR
            have HO2 : Hid (w'.ownsRow w9.heap.size 27 3 v' (j + 1) ((FS.take (j + 1)).flatMap fc)) := Lib.hid (by
              have e := take_map_snoc (fun x : Fl => x) hfy
              simp only [List.map_id'] at e
              rw [e, List.flatMap_append]
              simpa [fc] using hO')
            have HB3 : Hid (Below w9.heap.size w9 w') := Lib.hid (HBj.out.trans (((two_below wr _ _).mono HBj.out.size).trans hB'))
            clear hR hO' hB' OW bN hy hfy
            go_wp2_with ((with_reducible refine is_append 22 rfl ?_); (with_reducible refine wpList_append_run rfl rfl HR.out ?_ ?_ ?_); (· rfl); (· rfl))
            go_roundw
            case rel => exact ⟨j + 1, by omega, by simp, HB3, HO2⟩
            case measure => simp [intOf]; omega
          · obtain rfl : j = k := by omega
            go_wp2_with fail
            go_ret
            refine ⟨⟨_, rfl, ?_⟩, HUP.out _ (HB9.out.trans (HBj.out.mono HB9.out.size))⟩
            have := HOj.out
            rw [List.take_of_length_le (by rw [HFL.out]; exact Nat.le_refl _)] at this
            rw [HFE.out]
            exact oc_less this (Nat.le_trans HS.out.size HB9.out.size)
end Go.Proofs.YtgbbgdjdomkohaaGreat
