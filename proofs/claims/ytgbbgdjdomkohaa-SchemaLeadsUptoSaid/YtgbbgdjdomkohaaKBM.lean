/- A schema that came in: how it reads. -/
import Derived.Test.YtgbbgdjdomkohaaKBG
import Derived.Test.YtgbbgdjdomkohaaKBA
namespace Go.Proofs.Ytgbbgdjdomkohaa
open Go.ChangeShapes Go.WideShapes Go.ChangeAt Go.RowKit

section
variable {H : Type} {enc : TypeId × Value → H} {W : World}
theorem place_of {a : Addr} {u : Value} (h : W.cell? a = some u) : ∃ b o, a = ⟨b, o, none⟩ ∧ b < W.heap.size := by
  obtain ⟨b, o, spot⟩ := a
  have hs : spot = none := World.cell?_spot h
  subst hs
  exact ⟨b, o, rfl, block_lt_of_cell h⟩
/-- Rows of s cells: what each reads as. -/
theorem rows_at {α : Type} {s : Nat} {a : Addr} {len : Nat} {cells : α → List Value} {z : Nat → α} (hs : ∀ x, (cells x).length = s) (h0 : 0 < s) (h : ∀ i, i < len → ∃ cs, W.cells? 0 (a.add (i * s)) s = some cs ∧ cs = cells (z i)) (hl : 0 < len) :
    ∃ b o, a = ⟨b, o, none⟩ ∧ b < W.heap.size ∧ ∀ i, i < len → ∀ j u, (cells (z i))[j]? = some u → W.cell? ⟨b, o + i * s + j, none⟩ = some u := by
  have cell : ∀ i, i < len → ∀ j u, (cells (z i))[j]? = some u → W.cell? (a.add (i * s + j)) = some u := fun i hi j u hu => by
    obtain ⟨cs', h1, h2⟩ := h i hi
    obtain ⟨_, hlen', hc⟩ := World.cells?_some h1
    have hj : j < s := by
      have := (List.getElem?_eq_some_iff.1 hu).1
      rwa [hs] at this
    have := hc j hj
    rw [Go.Deep.add_add] at this
    rw [this, h2]
    exact hu
  have hc0 : ∃ u, (cells (z 0))[0]? = some u := ⟨_, List.getElem?_eq_getElem (by rw [hs]; exact h0)⟩
  obtain ⟨u, hu⟩ := hc0
  have f0 := cell 0 hl 0 u hu
  obtain ⟨b, off, spot⟩ := a
  have hspot : spot = none := by simpa [Addr.add] using World.cell?_spot f0
  subst hspot
  rw [Addr.add_mid] at f0
  refine ⟨b, off, rfl, block_lt_of_cell f0, fun i hi j u hu => ?_⟩
  have := cell i hi j u hu
  rwa [Addr.add_mid, ← Nat.add_assoc] at this
def fc (x : Fl) : List Value := [.string x.key, .int .i64 x.node, .bool x.opt]
set_option maxRecDepth 100000 in
theorem trod_field {f : Nat} {cs : List Value} {x : DataW H × List MemPlace} (h : DataW.trod enc Try.prog W 0 (fun _ => true) true f 49 cs = some x) : ∃ y : Fl, cs = fc y ∧ y.key.size + 1 ≤ Rows.uptoBulk x.1 := by
  obtain ⟨xs, m, rfl, rfl, hl, hlen, hf⟩ := DataW.trod_struct Try.underlying49 h
  have hC : Try.prog.cellsOf 49 = 3 := by kernel_rfl
  rw [hC] at hl
  obtain ⟨c0, c1, c2, rfl⟩ : ∃ c0 c1 c2, cs = [c0, c1, c2] := by
    match cs, hl with
    | [c0, c1, c2], _ => exact ⟨c0, c1, c2, rfl⟩
  obtain ⟨y0, y1, y2, rfl⟩ : ∃ y0 y1 y2, xs = [y0, y1, y2] := by
    match xs, hlen with
    | [y0, y1, y2], _ => exact ⟨y0, y1, y2, rfl⟩
  have g0 := hf 0 _ rfl
  have g1 := hf 1 _ rfl
  have g2 := hf 2 _ rfl
  have k0 : Try.prog.cellsOf 3 = 1 := by kernel_rfl
  have k1 : Try.prog.cellsOf 4 = 1 := by kernel_rfl
  have k2 : Try.prog.cellsOf 9 = 1 := by kernel_rfl
  simp [k0, k1, k2] at g0 g1 g2
  obtain ⟨s, e0, rfl, _⟩ := DataW.trod_string Try.underlying9 g0
  obtain ⟨k, e1, rfl, _⟩ := DataW.trod_int Try.underlying3 g1
  obtain ⟨q, e2, rfl⟩ := DataW.trod_bool Try.underlying4 g2
  injection e0 with e0
  injection e1 with e1
  injection e2 with e2
  subst e0 e1 e2
  exact ⟨⟨s, k, q⟩, rfl, by simp [Rows.uptoBulk, Rows.uptoBulkAll]⟩
theorem len_bulk : ∀ (ds : List (DataW H)), (∀ d ∈ ds, 1 ≤ Rows.uptoBulk d) → ds.length ≤ Rows.uptoBulkAll ds
  | [], _ => Nat.zero_le _
  | d :: r, h => by
    have h1 := h d (by simp)
    have h2 := len_bulk r fun x hx => h x (by simp [hx])
    simp only [Rows.uptoBulkAll, List.length_cons]
    omega
instance : Inhabited Fl := ⟨⟨⟨#[]⟩, 0, false⟩⟩
instance : Inhabited Nd := ⟨Nd.of 0⟩
instance : Inhabited Pl := ⟨⟨none, 0, none, 0, none, 0⟩⟩
theorem getD_map_range {α β : Type} (g : α → β) (z : Nat → α) (len i : Nat) (d : β) (hi : i < len) : ((List.range len).map fun i => g (z i)).getD i d = g (z i) := by
  rw [List.getD_eq_getElem?_getD, List.getElem?_map, List.getElem?_range hi]
  rfl
set_option maxRecDepth 100000 in
theorem trod_fields {f : Nat} {c : Value} {x : DataW H × List MemPlace} (h : DataW.trod enc Try.prog W 0 (fun _ => true) true f 41 [c] = some x) :
    ∃ (fs : List Fl) (A : Option Addr) (cap : Nat), c = .slice A fs.length cap ∧ fs.length ≤ cap ∧ (A = none → cap = 0) ∧ RdF W W.heap.size A fs ∧ okF (Rows.uptoBulk x.1) fs ∧ fs.length + 1 ≤ Rows.uptoBulk x.1 := by
  have hC : Try.prog.cellsOf 49 = 3 := by kernel_rfl
  rcases DataW.trod_slice Try.underlying41 h with ⟨hcs, hy⟩ | ⟨a, len, cap, elems, rest, q, hq, hcs, hy, _, hle, hm, hel, hall, _, _⟩
  · injection hcs with hcs
    subst hcs
    rw [hy]
    exact ⟨[], none, 0, rfl, Nat.le_refl _, fun _ => rfl, RdF.nil, fun y hy => (by cases hy), by simp [Rows.uptoBulk]⟩
  · injection hcs with hcs
    subst hcs
    rw [hC] at hall
    have each : ∀ i, i < len → ∃ z : Fl × (DataW H × List MemPlace), elems[i]? = some z.2 ∧ (∃ cs', W.cells? 0 (a.add (i * 3)) 3 = some cs' ∧ cs' = fc z.1) ∧ z.1.key.size + 1 ≤ Rows.uptoBulk z.2.1 := by
      intro i hi
      have := hall i hi
      rw [List.getElem?_eq_getElem (by omega)] at this
      obtain ⟨cs', h1, h2⟩ := Option.bind_eq_some_iff.1 this
      obtain ⟨y, h3, h4⟩ := trod_field h2
      exact ⟨(y, elems[i]), List.getElem?_eq_getElem (by omega), ⟨cs', h1, h3⟩, h4⟩
    obtain ⟨z, hz⟩ := Go.Deep.choose_lt (α := Fl × (DataW H × List MemPlace)) each
    have hmem : ∀ d ∈ elems.map (·.1), ∃ i, i < len ∧ d = (z i).2.1 := fun d hd => by
      obtain ⟨e, he, rfl⟩ := List.mem_map.1 hd
      obtain ⟨i, hi⟩ := List.mem_iff_getElem?.1 he
      have hlt := (List.getElem?_eq_some_iff.1 hi).1
      refine ⟨i, by omega, ?_⟩
      have := (hz i (by omega)).1
      rw [hi] at this
      injection this with this
      rw [this]
    have hb : Rows.uptoBulkAll (elems.map (·.1)) + 1 ≤ Rows.uptoBulk x.1 := by
      rw [hy]
      simp only [Rows.uptoBulk]
      omega
    refine ⟨(List.range len).map fun i => (z i).1, some a, cap, by simp, by simpa using hle, (fun h => by cases h), fun h0 => ?_, fun y hy => ?_, ?_⟩
    · obtain ⟨b, o, rfl, hlt, hc⟩ := rows_at (W := W) (s := 3) (cells := fc) (z := fun i => (z i).1) (fun _ => rfl) (by omega) (fun i hi => (hz i hi).2.1) (by simpa using h0)
      refine ⟨b, o, rfl, hlt, hlt, fun i y hy => ?_⟩
      have hi : i < len := by have := (List.getElem?_eq_some_iff.1 hy).1; simpa using this
      rw [List.getElem?_map, List.getElem?_range hi] at hy
      injection hy with hy
      subst hy
      exact ⟨hc i hi 0 _ rfl, hc i hi 1 _ rfl, hc i hi 2 _ rfl⟩
    · obtain ⟨i, hi, rfl⟩ := List.mem_map.1 hy
      rw [List.mem_range] at hi
      have h1 := (hz i hi).2.2
      have h2 := bulk_mem (d := (z i).2.1) (ds := elems.map (·.1)) (List.mem_map.2 ⟨_, List.mem_of_getElem? (hz i hi).1, rfl⟩)
      omega
    · have h1 := len_bulk (elems.map (·.1)) fun d hd => by
        obtain ⟨i, hi, rfl⟩ := hmem d hd
        have := (hz i hi).2.2
        omega
      simp only [List.length_map, List.length_range] at h1 ⊢
      omega
set_option maxRecDepth 100000 in
theorem trod_ints {f : Nat} {c : Value} {x : DataW H × List MemPlace} (h : DataW.trod enc Try.prog W 0 (fun _ => true) true f 35 [c] = some x) :
    ∃ (zs : List Int) (A : Option Addr) (cap : Nat), c = .slice A zs.length cap ∧ zs.length ≤ cap ∧ (A = none → cap = 0) ∧ Rd W W.heap.size .i64 A zs ∧ zs.length + 1 ≤ Rows.uptoBulk x.1 := by
  have hC : Try.prog.cellsOf 3 = 1 := by kernel_rfl
  rcases DataW.trod_slice Try.underlying35 h with ⟨hcs, hy⟩ | ⟨a, len, cap, elems, rest, q, hq, hcs, hy, _, hle, hm, hel, hall, _, _⟩
  · injection hcs with hcs
    subst hcs
    rw [hy]
    exact ⟨[], none, 0, rfl, Nat.le_refl _, fun _ => rfl, fun h => absurd h (by simp), by simp [Rows.uptoBulk]⟩
  · injection hcs with hcs
    subst hcs
    rw [hC] at hall
    have each : ∀ i, i < len → ∃ z : Int × (DataW H × List MemPlace), elems[i]? = some z.2 ∧ (∃ cs', W.cells? 0 (a.add (i * 1)) 1 = some cs' ∧ cs' = [Value.int .i64 z.1]) ∧ 1 ≤ Rows.uptoBulk z.2.1 := by
      intro i hi
      have := hall i hi
      rw [List.getElem?_eq_getElem (by omega)] at this
      obtain ⟨cs', h1, h2⟩ := Option.bind_eq_some_iff.1 this
      obtain ⟨y, h3, h4, _⟩ := DataW.trod_int Try.underlying3 h2
      exact ⟨(y, elems[i]), List.getElem?_eq_getElem (by omega), ⟨cs', h1, h3⟩, by rw [h4]; exact bulk_one _⟩
    obtain ⟨z, hz⟩ := Go.Deep.choose_lt (α := Int × (DataW H × List MemPlace)) each
    have hmem : ∀ d ∈ elems.map (·.1), ∃ i, i < len ∧ d = (z i).2.1 := fun d hd => by
      obtain ⟨e, he, rfl⟩ := List.mem_map.1 hd
      obtain ⟨i, hi⟩ := List.mem_iff_getElem?.1 he
      have hlt := (List.getElem?_eq_some_iff.1 hi).1
      refine ⟨i, by omega, ?_⟩
      have := (hz i (by omega)).1
      rw [hi] at this
      injection this with this
      rw [this]
    have hb : Rows.uptoBulkAll (elems.map (·.1)) + 1 ≤ Rows.uptoBulk x.1 := by
      rw [hy]
      simp only [Rows.uptoBulk]
      omega
    refine ⟨(List.range len).map fun i => (z i).1, some a, cap, by simp, by simpa using hle, (fun h => by cases h), fun h0 => ?_, ?_⟩
    · obtain ⟨b, o, rfl, hlt, hc⟩ := rows_at (W := W) (s := 1) (cells := fun n : Int => [Value.int .i64 n]) (z := fun i => (z i).1) (fun _ => rfl) (by omega) (fun i hi => (hz i hi).2.1) (by simpa using h0)
      refine ⟨b, o, rfl, hlt, fun i hi => ?_⟩
      have hi : i < len := by simpa using hi
      rw [getD_map_range (fun y : Int × (DataW H × List MemPlace) => y.1) z len i 0 hi]
      simpa using hc i hi 0 _ rfl
    · have h1 := len_bulk (elems.map (·.1)) fun d hd => by
        obtain ⟨i, hi, rfl⟩ := hmem d hd
        exact (hz i hi).2.2
      simp only [List.length_map, List.length_range] at h1 ⊢
      omega
/-- Bounds of a node that came in. -/
def okX (N : Nat) (x : Nd) : Prop := okI N x.v ∧ okF N x.f ∧ x.l.length + x.f.length ≤ N
theorem okI_up {N N' : Nat} {t : It} (h : okI N t) (hN : N ≤ N') : okI N' t := ⟨Nat.le_trans h.1 hN, fun d p hp => ⟨(h.2 d p hp).1, (h.2 d p hp).2.1, Nat.le_trans (h.2 d p hp).2.2 hN⟩⟩
theorem okX.up {N N' : Nat} {x : Nd} (h : okX N x) (hN : N ≤ N') : okX N' x := ⟨okI_up h.1 hN, fun y hy => Nat.le_trans (h.2.1 y hy) hN, Nat.le_trans h.2.2 hN⟩
theorem okX.ok {N : Nat} {x : Nd} (h : okX N x) (hN : N ≤ 1048576) : okN x := ⟨(h.up hN).1, (h.up hN).2.1, Nat.le_trans (h.up hN).2.2 (by decide)⟩
set_option maxRecDepth 100000 in
theorem trod_node {f : Nat} {cs : List Value} {x : DataW H × List MemPlace} (h : DataW.trod enc Try.prog W 0 (fun _ => true) true f 43 cs = some x) :
    ∃ (y : Nd) (p : Pl), cs = (nc y p).toList ∧ NdB W W.heap.size y p ∧ okX (Rows.uptoBulk x.1) y ∧ 1 ≤ Rows.uptoBulk x.1 := by
  obtain ⟨xs, m, rfl, rfl, hl, hlen, hf⟩ := DataW.trod_struct Try.underlying43 h
  have hC : Try.prog.cellsOf 43 = 9 := by kernel_rfl
  rw [hC] at hl
  obtain ⟨c0, c1, c2, c3, c4, c5, c6, c7, c8, rfl⟩ : ∃ c0 c1 c2 c3 c4 c5 c6 c7 c8, cs = [c0, c1, c2, c3, c4, c5, c6, c7, c8] := by
    match cs, hl with
    | [c0, c1, c2, c3, c4, c5, c6, c7, c8], _ => exact ⟨c0, c1, c2, c3, c4, c5, c6, c7, c8, rfl⟩
  obtain ⟨y0, y1, y2, y3, y4, y5, rfl⟩ : ∃ y0 y1 y2 y3 y4 y5, xs = [y0, y1, y2, y3, y4, y5] := by
    match xs, hlen with
    | [y0, y1, y2, y3, y4, y5], _ => exact ⟨y0, y1, y2, y3, y4, y5, rfl⟩
  have g0 := hf 0 _ rfl
  have g1 := hf 1 _ rfl
  have g2 := hf 2 _ rfl
  have g3 := hf 3 _ rfl
  have g4 := hf 4 _ rfl
  have g5 := hf 5 _ rfl
  have k0 : Try.prog.cellsOf 3 = 1 := by kernel_rfl
  have k1 : Try.prog.cellsOf 40 = 4 := by kernel_rfl
  have k2 : Try.prog.cellsOf 35 = 1 := by kernel_rfl
  have k3 : Try.prog.cellsOf 41 = 1 := by kernel_rfl
  simp [k0, k1, k2, k3] at g0 g1 g2 g3 g4 g5
  obtain ⟨k, e0, rfl, _⟩ := DataW.trod_int Try.underlying3 g0
  obtain ⟨lo, e1, rfl, _⟩ := DataW.trod_int Try.underlying3 g1
  obtain ⟨hi, e2, rfl, _⟩ := DataW.trod_int Try.underlying3 g2
  obtain ⟨v, Av, cv, e3, hv, hov⟩ := trod_item _ _ _ g3
  obtain ⟨zs, Al, cl, e4, hll, hln, hl4, hbl⟩ := trod_ints g4
  obtain ⟨fs, Af, cf, e5, hfl, hfn, hf5, hok, hbf⟩ := trod_fields g5
  injection e0 with e0
  injection e1 with e1
  injection e2 with e2
  subst e0 e1 e2
  simp only [ic, List.cons.injEq, and_true] at e3
  obtain ⟨rfl, rfl, rfl, rfl⟩ := e3
  subst e4 e5
  have hb : Rows.uptoBulk (DataW.agg (H := H) [.lit (.int .i64 k), .lit (.int .i64 lo), .lit (.int .i64 hi), y3.1, y4.1, y5.1]) = Rows.uptoBulk y3.1 + Rows.uptoBulk y4.1 + Rows.uptoBulk y5.1 + 4 := by
    simp [Rows.uptoBulk, Rows.uptoBulkAll]
    omega
  refine ⟨⟨k, lo, hi, v, zs, fs⟩, ⟨Av, cv, Al, cl, Af, cf⟩, rfl, ⟨hv.toB, hl4, hll, hln, hf5, hfl, hfn⟩, ?_, ?_⟩
  · simp only [List.map_cons, List.map_nil]
    rw [hb]
    exact ⟨okI_up hov (by omega), fun y hy => Nat.le_trans (hok y hy) (by omega), by show zs.length + fs.length ≤ _; omega⟩
  · simp only [List.map_cons, List.map_nil]
    rw [hb]
    omega
set_option maxRecDepth 100000 in
theorem trod_nodes {f : Nat} {c : Value} {x : DataW H × List MemPlace} (h : DataW.trod enc Try.prog W 0 (fun _ => true) true f 22 [c] = some x) :
    ∃ (xs : List Nd) (A : Option Addr) (cap : Nat), c = .slice A xs.length cap ∧ RdN W W.heap.size A xs ∧ (∀ y ∈ xs, okX (Rows.uptoBulk x.1) y) ∧ xs.length + 1 ≤ Rows.uptoBulk x.1 := by
  have hC : Try.prog.cellsOf 43 = 9 := by kernel_rfl
  rcases DataW.trod_slice Try.underlying22 h with ⟨hcs, hy⟩ | ⟨a, len, cap, elems, rest, q, hq, hcs, hy, _, hle, hm, hel, hall, _, _⟩
  · injection hcs with hcs
    subst hcs
    rw [hy]
    exact ⟨[], none, 0, rfl, fun h => absurd h (by simp), fun y hy => (by cases hy), by simp [Rows.uptoBulk]⟩
  · injection hcs with hcs
    subst hcs
    rw [hC] at hall
    have each : ∀ i, i < len → ∃ z : Nd × Pl × (DataW H × List MemPlace), elems[i]? = some z.2.2 ∧ (∃ cs', W.cells? 0 (a.add (i * 9)) 9 = some cs' ∧ cs' = (nc z.1 z.2.1).toList) ∧ NdB W W.heap.size z.1 z.2.1 ∧ okX (Rows.uptoBulk z.2.2.1) z.1 ∧ 1 ≤ Rows.uptoBulk z.2.2.1 := by
      intro i hi
      have := hall i hi
      rw [List.getElem?_eq_getElem (by omega)] at this
      obtain ⟨cs', h1, h2⟩ := Option.bind_eq_some_iff.1 this
      obtain ⟨y, p, h3, h4, h5, h6⟩ := trod_node h2
      exact ⟨(y, p, elems[i]), List.getElem?_eq_getElem (by omega), ⟨cs', h1, h3⟩, h4, h5, h6⟩
    obtain ⟨z, hz⟩ := Go.Deep.choose_lt (α := Nd × Pl × (DataW H × List MemPlace)) each
    have hmem : ∀ d ∈ elems.map (·.1), ∃ i, i < len ∧ d = (z i).2.2.1 := fun d hd => by
      obtain ⟨e, he, rfl⟩ := List.mem_map.1 hd
      obtain ⟨i, hi⟩ := List.mem_iff_getElem?.1 he
      have hlt := (List.getElem?_eq_some_iff.1 hi).1
      refine ⟨i, by omega, ?_⟩
      have := (hz i (by omega)).1
      rw [hi] at this
      injection this with this
      rw [this]
    have hb : Rows.uptoBulkAll (elems.map (·.1)) + 1 ≤ Rows.uptoBulk x.1 := by
      rw [hy]
      simp only [Rows.uptoBulk]
      omega
    refine ⟨(List.range len).map fun i => (z i).1, some a, cap, by simp, fun h0 => ?_, fun y hy => ?_, ?_⟩
    · obtain ⟨b, o, rfl, hlt, hc⟩ := rows_at (W := W) (s := 9) (cells := fun y : Nd × Pl => (nc y.1 y.2).toList) (z := fun i => ((z i).1, (z i).2.1)) (fun _ => rfl) (by omega) (fun i hi => (hz i hi).2.1) (by simpa using h0)
      refine ⟨b, o, rfl, hlt, hlt, fun i y hy => ?_⟩
      have hi : i < len := by have := (List.getElem?_eq_some_iff.1 hy).1; simpa using this
      rw [List.getElem?_map, List.getElem?_range hi] at hy
      injection hy with hy
      subst hy
      exact ⟨(z i).2.1, (hz i hi).2.2.1, fun j u hu => hc i hi j u (by simpa using hu)⟩
    · obtain ⟨i, hi, rfl⟩ := List.mem_map.1 hy
      rw [List.mem_range] at hi
      have h1 := (hz i hi).2.2.2.1
      have h2 := bulk_mem (d := (z i).2.2.1) (ds := elems.map (·.1)) (List.mem_map.2 ⟨_, List.mem_of_getElem? (hz i hi).1, rfl⟩)
      exact h1.up (by omega)
    · have h1 := len_bulk (elems.map (·.1)) fun d hd => by
        obtain ⟨i, hi, rfl⟩ := hmem d hd
        exact (hz i hi).2.2.2.2
      simp only [List.length_map, List.length_range] at h1 ⊢
      omega
set_option maxRecDepth 100000 in
/-- A schema among the arguments. -/
theorem open_schema {b0 : Nat} {v : Value} {d : DataW H} {ps : List MemPlace} (hval : Value.okWide Try.prog W .any b0 24 v) (hd : DataW.Trod enc Try.prog W 0 (fun _ => true) true 24 v d ps) (hN : Rows.uptoBulk d ≤ 1048576) :
    ∃ xs A cap, v = vS A xs cap ∧ RdN W W.heap.size A xs ∧ (∀ y ∈ xs, okN y) ∧ xs.length ≤ 1048576 := by
  obtain ⟨cs, rfl, _⟩ := okWide_struct Try.underlying24 hval
  obtain ⟨fuel, hf⟩ := hd
  obtain ⟨xs, m, e1, e2, hl, hlen, hg⟩ := DataW.trod_struct Try.underlying24 hf
  have hC : Try.prog.cellsOf 24 = 1 := by kernel_rfl
  rw [hC] at hl
  obtain ⟨c0, hc⟩ : ∃ c0, cs = #[c0] := by
    have hl' : cs.toList.length = 1 := by simpa [Value.cells] using hl
    match h : cs.toList, hl' with
    | [c0], _ => exact ⟨c0, by apply Array.ext'; rw [h]⟩
  subst hc
  obtain ⟨y0, rfl⟩ : ∃ y0, xs = [y0] := by
    match xs, hlen with
    | [y0], _ => exact ⟨y0, rfl⟩
  have g0 := hg 0 _ rfl
  have k0 : Try.prog.cellsOf 22 = 1 := by kernel_rfl
  simp [k0, Value.cells] at g0
  obtain ⟨zs, A, cap, rfl, h1, h2, h3⟩ := trod_nodes g0
  have hb : Rows.uptoBulk d = Rows.uptoBulk y0.1 + 1 := by
    have : d = DataW.agg [y0.1] := by simpa using congrArg Prod.fst e2
    rw [this]
    simp [Rows.uptoBulk, Rows.uptoBulkAll]
  exact ⟨zs, A, cap, rfl, h1, fun y hy => (h2 y hy).ok (by omega), by omega⟩
end
end Go.Proofs.Ytgbbgdjdomkohaa

/- The document's example of schemas. -/
namespace Go.Proofs.Ytgbbgdjdomkohaa
open Go.RowKit

/-- The example. -/
def aw : List Nd := [⟨10, 0, 0, zIt, [1, 2], []⟩, ⟨3, 0, 9, zIt, [], []⟩, ⟨6, 0, 9, zIt, [2], []⟩]
theorem okI_z : okI 1048576 zIt := by
  refine ⟨by simp [zIt, It.count, countL], fun d p hp => ?_⟩
  simp only [zIt, It.items, itemsL, List.mem_cons, List.not_mem_nil, or_false] at hp
  subst hp
  exact ⟨Int.le_refl _, by show (0 : Int) < _; omega, Nat.zero_le _⟩
theorem aw_ok : ∀ x ∈ aw, okN x := by
  intro x hx
  simp only [aw, List.mem_cons, List.not_mem_nil, or_false] at hx
  rcases hx with rfl | rfl | rfl <;> exact ⟨okI_z, fun y hy => (by cases hy), by simp⟩
theorem keys_nil : keysN [] = 0 := rfl
theorem aw_vals : checkE chI aw = 13 ∧ checkI chI aw = 2 := by
  have e0 : errN chI aw 0 = 0 := by
    rw [errN_some (x := ⟨10, 0, 0, zIt, [1, 2], []⟩) rfl]
    have hf : formN chI ⟨10, 0, 0, zIt, [1, 2], []⟩ = true := by simp [formN, Nd.of, sameN]
    simp [wrongN, hf, rangedN, keys_nil, nameE, namedN, nameB, aw]
  have e1 : errN chI aw 1 = 0 := by
    rw [errN_some (x := ⟨3, 0, 9, zIt, [], []⟩) rfl]
    have hf : formN chI ⟨3, 0, 9, zIt, [], []⟩ = true := by simp [formN, Nd.of, sameN]
    simp [wrongN, hf, rangedN, keys_nil, nameE, namedN]
  have e2 : wrongN chI ⟨6, 0, 9, zIt, [2], []⟩ (2 : Nat) aw.length = 13 := by
    have hf : formN chI ⟨6, 0, 9, zIt, [2], []⟩ = true := by simp [formN, Nd.of, sameN]
    simp [wrongN, hf, rangedN, keys_nil, nameE, namedN, nameB]
  have h := checkE_at (ch := chI) (xs := aw) (k := 2) (by simp [aw]) (fun j hj => by
    rcases (by omega : j = 0 ∨ j = 1) with rfl | rfl
    · exact e0
    · exact e1) rfl (by rw [e2]; decide)
  rw [e2] at h
  exact h
def awc : Nat → Array Value := fun g => #[.int .i64 10, .int .i64 0, .int .i64 0, .int .i64 0, .int .u64 0, .string ⟨#[]⟩, .slice none 0 0, .slice (some ⟨g, 0, none⟩) 2 2, .slice none 0 0,
  .int .i64 3, .int .i64 0, .int .i64 9, .int .i64 0, .int .u64 0, .string ⟨#[]⟩, .slice none 0 0, .slice none 0 0, .slice none 0 0,
  .int .i64 6, .int .i64 0, .int .i64 9, .int .i64 0, .int .u64 0, .string ⟨#[]⟩, .slice none 0 0, .slice (some ⟨g + 1, 0, none⟩) 1 1, .slice none 0 0]
theorem aw_at (w : World) : ∃ w1, ((w.alloc (.cells #[.int .i64 1, .int .i64 2] 3)).alloc (.cells #[.int .i64 2] 3)).alloc (.cells (awc w.heap.size) 43) = w1 ∧ RdN w1 w1.heap.size (some ⟨w.heap.size + 2, 0, none⟩) aw ∧ Below w.heap.size w w1 := by
  refine ⟨_, rfl, ?_, ((below_alloc w _).alloc (by simp) _).alloc (by simp; omega) _⟩
  have b0 := ((Blk.fresh w 3 (nums .i64 [1, 2])).alloc (.cells #[.int .i64 2] 3)).alloc (.cells (awc w.heap.size) 43)
  have b1 := (Blk.freshAt (w.alloc (.cells #[.int .i64 1, .int .i64 2] 3)) 3 (nums .i64 [2]) (w.heap.size + 1) (by simp)).alloc (.cells (awc w.heap.size) 43)
  have b2 := Blk.freshAt ((w.alloc (.cells #[.int .i64 1, .int .i64 2] 3)).alloc (.cells #[.int .i64 2] 3)) 43 (awc w.heap.size) (w.heap.size + 2) (by simp)
  intro _
  refine ⟨w.heap.size + 2, 0, rfl, b2.lt, b2.lt, fun i x hx => ?_⟩
  have hi := (List.getElem?_eq_some_iff.1 hx).1
  have r0 := b0.rd
  have r1 := b1.rd
  rcases (by simp [aw] at hi; omega : i = 0 ∨ i = 1 ∨ i = 2) with rfl | rfl | rfl
  · obtain rfl : (⟨10, 0, 0, zIt, [1, 2], []⟩ : Nd) = x := by injection hx
    refine ⟨⟨none, 0, some ⟨w.heap.size, 0, none⟩, 2, none, 0⟩, ⟨zIt_at _ _, r0, Nat.le_refl _, (fun h => by cases h), RdF.nil, Nat.le_refl _, fun _ => rfl⟩, fun j u hu => ?_⟩
    rw [b2.cell]
    have hj := (Array.getElem?_eq_some_iff.1 hu).1
    simp [nc] at hj
    rcases (by omega : j = 0 ∨ j = 1 ∨ j = 2 ∨ j = 3 ∨ j = 4 ∨ j = 5 ∨ j = 6 ∨ j = 7 ∨ j = 8) with rfl | rfl | rfl | rfl | rfl | rfl | rfl | rfl | rfl <;> exact hu
  · obtain rfl : (⟨3, 0, 9, zIt, [], []⟩ : Nd) = x := by injection hx
    refine ⟨⟨none, 0, none, 0, none, 0⟩, ⟨zIt_at _ _, (fun h => absurd h (by simp)), Nat.le_refl _, (fun _ => rfl), RdF.nil, Nat.le_refl _, fun _ => rfl⟩, fun j u hu => ?_⟩
    rw [b2.cell]
    have hj := (Array.getElem?_eq_some_iff.1 hu).1
    simp [nc] at hj
    rcases (by omega : j = 0 ∨ j = 1 ∨ j = 2 ∨ j = 3 ∨ j = 4 ∨ j = 5 ∨ j = 6 ∨ j = 7 ∨ j = 8) with rfl | rfl | rfl | rfl | rfl | rfl | rfl | rfl | rfl <;> exact hu
  · obtain rfl : (⟨6, 0, 9, zIt, [2], []⟩ : Nd) = x := by injection hx
    refine ⟨⟨none, 0, some ⟨w.heap.size + 1, 0, none⟩, 1, none, 0⟩, ⟨zIt_at _ _, r1, Nat.le_refl _, (fun h => by cases h), RdF.nil, Nat.le_refl _, fun _ => rfl⟩, fun j u hu => ?_⟩
    rw [b2.cell]
    have hj := (Array.getElem?_eq_some_iff.1 hu).1
    simp [nc] at hj
    rcases (by omega : j = 0 ∨ j = 1 ∨ j = 2 ∨ j = 3 ∨ j = 4 ∨ j = 5 ∨ j = 6 ∨ j = 7 ∨ j = 8) with rfl | rfl | rfl | rfl | rfl | rfl | rfl | rfl | rfl <;> exact hu

set_option maxRecDepth 100000 in
set_option maxHeartbeats 2000000 in
theorem sch_awake (w : World) : Calls Try.prog 5 #[] w fun e w' => e = .returned (.bool true) ∧ Below w.heap.size w w' := by
  obtain ⟨w1, hw1, hx, S⟩ := aw_at w
  have hC := sch_Check aw (some ⟨w.heap.size + 2, 0, none⟩) 3 w1.heap.size w1 (Nat.le_refl _) hx aw_ok (by simp [aw])
  rw [aw_vals.1, aw_vals.2] at hC
  have HC := Lib.hid hC
  have HS := Lib.hid S
  unfold awc at hw1
  clear hx S hC
  simp only [vS, aw, List.length_cons, List.length_nil] at HC
  go_enter Try.func5, Try.ntmps5
  go_wp2_with (first
    | (go_at_call 7; refine HC.out.mono ?_; rintro e w2 ⟨rfl, hb2⟩; have HB2 := Lib.hid (HS.out.trans (hb2.mono HS.out.size)); clear hb2)
    | fail)
  go_ret
  exact ⟨rfl, HB2.out⟩
end Go.Proofs.Ytgbbgdjdomkohaa
