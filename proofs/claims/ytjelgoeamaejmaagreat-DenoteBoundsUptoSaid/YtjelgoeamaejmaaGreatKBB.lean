/- A schema that came in: how it reads. -/
import Derived.Test.YtjelgoeamaejmaaGreatKBA
import Derived.Test.YtjelgoeamaejmaaGreatKAX
import Derived.Test.YtjelgoeamaejmaaGreatKAD
import Derived.Deep.RegionLaw
namespace Go.Proofs.YtjelgoeamaejmaaGreat
open Go.ChangeShapes Go.WideShapes Go.ChangeAt Go.RowKit

section
variable {H : Type} {enc : TypeId × Value → H} {W : World}
theorem place_of {a : Addr} {u : Value} (h : W.cell? a = some u) : ∃ b o, a = ⟨b, o, none⟩ ∧ b < W.heap.size := by
  obtain ⟨b, o, spot⟩ := a
  have hs : spot = none := World.cell?_spot h
  subst hs
  exact ⟨b, o, rfl, block_lt_of_cell h⟩
/-- Rows of s cells: what each reads as. -/
theorem rows_at {α : Type} {s : Nat} {a : Addr} {len : Nat} {cells : α → List Value} {z : Nat → α} (hs : ∀ x, (cells x).length = s) (h0 : 0 < s) (h : ∀ i, i < len → ∃ cs, W.cells? 0 (a.add (i * s)) s = some cs ∧ cs = cells (z i)) (hl : 0 < len) :
    ∃ b o, a = ⟨b, o, none⟩ ∧ b < W.heap.size ∧ ∀ i, i < len → ∀ j u, (cells (z i))[j]? = some u → W.cell? ⟨b, o + i * s + j, none⟩ = some u := by
  have cell : ∀ i, i < len → ∀ j u, (cells (z i))[j]? = some u → W.cell? (a.add (i * s + j)) = some u := fun i hi j u hu => by
    obtain ⟨cs', h1, h2⟩ := h i hi
    obtain ⟨_, hlen', hc⟩ := World.cells?_some h1
    have hj : j < s := by
      have := (List.getElem?_eq_some_iff.1 hu).1
      rwa [hs] at this
    have := hc j hj
    rw [Go.Deep.add_add] at this
    rw [this, h2]
    exact hu
  have hc0 : ∃ u, (cells (z 0))[0]? = some u := ⟨_, List.getElem?_eq_getElem (by rw [hs]; exact h0)⟩
  obtain ⟨u, hu⟩ := hc0
  have f0 := cell 0 hl 0 u hu
  obtain ⟨b, off, spot⟩ := a
  have hspot : spot = none := by simpa [Addr.add] using World.cell?_spot f0
  subst hspot
  rw [Addr.add_mid] at f0
  refine ⟨b, off, rfl, block_lt_of_cell f0, fun i hi j u hu => ?_⟩
  have := cell i hi j u hu
  rwa [Addr.add_mid, ← Nat.add_assoc] at this
def fc (x : Fl) : List Value := [.string x.key, .int .i64 x.node, .bool x.opt]
set_option maxRecDepth 100000 in
theorem trod_field {f : Nat} {cs : List Value} {x : DataW H × List MemPlace} (h : DataW.trod enc Tryz.prog W 0 (fun _ => true) true f 53 cs = some x) : ∃ y : Fl, cs = fc y ∧ y.key.size + 1 ≤ Rows.uptoBulk x.1 := by
  obtain ⟨xs, m, rfl, rfl, hl, hlen, hf⟩ := DataW.trod_struct Tryz.underlying53 h
  have hC : Tryz.prog.cellsOf 53 = 3 := by kernel_rfl
  rw [hC] at hl
  obtain ⟨c0, c1, c2, rfl⟩ : ∃ c0 c1 c2, cs = [c0, c1, c2] := by
    match cs, hl with
    | [c0, c1, c2], _ => exact ⟨c0, c1, c2, rfl⟩
  obtain ⟨y0, y1, y2, rfl⟩ : ∃ y0 y1 y2, xs = [y0, y1, y2] := by
    match xs, hlen with
    | [y0, y1, y2], _ => exact ⟨y0, y1, y2, rfl⟩
  have g0 := hf 0 _ rfl
  have g1 := hf 1 _ rfl
  have g2 := hf 2 _ rfl
  have k0 : Tryz.prog.cellsOf 3 = 1 := by kernel_rfl
  have k1 : Tryz.prog.cellsOf 4 = 1 := by kernel_rfl
  have k2 : Tryz.prog.cellsOf 9 = 1 := by kernel_rfl
  simp [k0, k1, k2] at g0 g1 g2
  obtain ⟨s, e0, rfl, _⟩ := DataW.trod_string Tryz.underlying9 g0
  obtain ⟨k, e1, rfl, _⟩ := DataW.trod_int Tryz.underlying3 g1
  obtain ⟨q, e2, rfl⟩ := DataW.trod_bool Tryz.underlying4 g2
  injection e0 with e0
  injection e1 with e1
  injection e2 with e2
  subst e0 e1 e2
  exact ⟨⟨s, k, q⟩, rfl, by simp [Rows.uptoBulk, Rows.uptoBulkAll]⟩
theorem len_bulk : ∀ (ds : List (DataW H)), (∀ d ∈ ds, 1 ≤ Rows.uptoBulk d) → ds.length ≤ Rows.uptoBulkAll ds
  | [], _ => Nat.zero_le _
  | d :: r, h => by
    have h1 := h d (by simp)
    have h2 := len_bulk r fun x hx => h x (by simp [hx])
    simp only [Rows.uptoBulkAll, List.length_cons]
    omega
instance : Inhabited Fl := ⟨⟨⟨#[]⟩, 0, false⟩⟩
instance : Inhabited Nd := ⟨Nd.of 0⟩
instance : Inhabited Pl := ⟨⟨none, 0, none, 0, none, 0⟩⟩
theorem getD_map_range {α β : Type} (g : α → β) (z : Nat → α) (len i : Nat) (d : β) (hi : i < len) : ((List.range len).map fun i => g (z i)).getD i d = g (z i) := by
  rw [List.getD_eq_getElem?_getD, List.getElem?_map, List.getElem?_range hi]
  rfl
set_option maxRecDepth 100000 in
theorem trod_fields {f : Nat} {c : Value} {x : DataW H × List MemPlace} (h : DataW.trod enc Tryz.prog W 0 (fun _ => true) true f 45 [c] = some x) :
    ∃ (fs : List Fl) (A : Option Addr) (cap : Nat), c = .slice A fs.length cap ∧ fs.length ≤ cap ∧ (A = none → cap = 0) ∧ RdF W W.heap.size A fs ∧ okF (Rows.uptoBulk x.1) fs ∧ fs.length + 1 ≤ Rows.uptoBulk x.1 := by
  have hC : Tryz.prog.cellsOf 53 = 3 := by kernel_rfl
  rcases DataW.trod_slice Tryz.underlying45 h with ⟨hcs, hy⟩ | ⟨a, len, cap, elems, rest, q, hq, hcs, hy, _, hle, hm, hel, hall, _, _⟩
  · injection hcs with hcs
    subst hcs
    rw [hy]
    exact ⟨[], none, 0, rfl, Nat.le_refl _, fun _ => rfl, RdF.nil, fun y hy => (by cases hy), by simp [Rows.uptoBulk]⟩
  · injection hcs with hcs
    subst hcs
    rw [hC] at hall
    have each : ∀ i, i < len → ∃ z : Fl × (DataW H × List MemPlace), elems[i]? = some z.2 ∧ (∃ cs', W.cells? 0 (a.add (i * 3)) 3 = some cs' ∧ cs' = fc z.1) ∧ z.1.key.size + 1 ≤ Rows.uptoBulk z.2.1 := by
      intro i hi
      have := hall i hi
      rw [List.getElem?_eq_getElem (by omega)] at this
      obtain ⟨cs', h1, h2⟩ := Option.bind_eq_some_iff.1 this
      obtain ⟨y, h3, h4⟩ := trod_field h2
      exact ⟨(y, elems[i]), List.getElem?_eq_getElem (by omega), ⟨cs', h1, h3⟩, h4⟩
    obtain ⟨z, hz⟩ := Go.Deep.choose_lt (α := Fl × (DataW H × List MemPlace)) each
    have hmem : ∀ d ∈ elems.map (·.1), ∃ i, i < len ∧ d = (z i).2.1 := fun d hd => by
      obtain ⟨e, he, rfl⟩ := List.mem_map.1 hd
      obtain ⟨i, hi⟩ := List.mem_iff_getElem?.1 he
      have hlt := (List.getElem?_eq_some_iff.1 hi).1
      refine ⟨i, by omega, ?_⟩
      have := (hz i (by omega)).1
      rw [hi] at this
      injection this with this
      rw [this]
    have hb : Rows.uptoBulkAll (elems.map (·.1)) + 1 ≤ Rows.uptoBulk x.1 := by
      rw [hy]
      simp only [Rows.uptoBulk]
      omega
    refine ⟨(List.range len).map fun i => (z i).1, some a, cap, by simp, by simpa using hle, (fun h => by cases h), fun h0 => ?_, fun y hy => ?_, ?_⟩
    · obtain ⟨b, o, rfl, hlt, hc⟩ := rows_at (W := W) (s := 3) (cells := fc) (z := fun i => (z i).1) (fun _ => rfl) (by omega) (fun i hi => (hz i hi).2.1) (by simpa using h0)
      refine ⟨b, o, rfl, hlt, hlt, fun i y hy => ?_⟩
      have hi : i < len := by have := (List.getElem?_eq_some_iff.1 hy).1; simpa using this
      rw [List.getElem?_map, List.getElem?_range hi] at hy
      injection hy with hy
      subst hy
      exact ⟨hc i hi 0 _ rfl, hc i hi 1 _ rfl, hc i hi 2 _ rfl⟩
    · obtain ⟨i, hi, rfl⟩ := List.mem_map.1 hy
      rw [List.mem_range] at hi
      have h1 := (hz i hi).2.2
      have h2 := bulk_mem (d := (z i).2.1) (ds := elems.map (·.1)) (List.mem_map.2 ⟨_, List.mem_of_getElem? (hz i hi).1, rfl⟩)
      omega
    · have h1 := len_bulk (elems.map (·.1)) fun d hd => by
        obtain ⟨i, hi, rfl⟩ := hmem d hd
        have := (hz i hi).2.2
        omega
      simp only [List.length_map, List.length_range] at h1 ⊢
      omega
set_option maxRecDepth 100000 in
theorem trod_ints {f : Nat} {c : Value} {x : DataW H × List MemPlace} (h : DataW.trod enc Tryz.prog W 0 (fun _ => true) true f 35 [c] = some x) :
    ∃ (zs : List Int) (A : Option Addr) (cap : Nat), c = .slice A zs.length cap ∧ zs.length ≤ cap ∧ (A = none → cap = 0) ∧ Rd W W.heap.size .i64 A zs ∧ zs.length + 1 ≤ Rows.uptoBulk x.1 := by
  have hC : Tryz.prog.cellsOf 3 = 1 := by kernel_rfl
  rcases DataW.trod_slice Tryz.underlying35 h with ⟨hcs, hy⟩ | ⟨a, len, cap, elems, rest, q, hq, hcs, hy, _, hle, hm, hel, hall, _, _⟩
  · injection hcs with hcs
    subst hcs
    rw [hy]
    exact ⟨[], none, 0, rfl, Nat.le_refl _, fun _ => rfl, fun h => absurd h (by simp), by simp [Rows.uptoBulk]⟩
  · injection hcs with hcs
    subst hcs
    rw [hC] at hall
    have each : ∀ i, i < len → ∃ z : Int × (DataW H × List MemPlace), elems[i]? = some z.2 ∧ (∃ cs', W.cells? 0 (a.add (i * 1)) 1 = some cs' ∧ cs' = [Value.int .i64 z.1]) ∧ 1 ≤ Rows.uptoBulk z.2.1 := by
      intro i hi
      have := hall i hi
      rw [List.getElem?_eq_getElem (by omega)] at this
      obtain ⟨cs', h1, h2⟩ := Option.bind_eq_some_iff.1 this
      obtain ⟨y, h3, h4, _⟩ := DataW.trod_int Tryz.underlying3 h2
      exact ⟨(y, elems[i]), List.getElem?_eq_getElem (by omega), ⟨cs', h1, h3⟩, by rw [h4]; exact bulk_one _⟩
    obtain ⟨z, hz⟩ := Go.Deep.choose_lt (α := Int × (DataW H × List MemPlace)) each
    have hmem : ∀ d ∈ elems.map (·.1), ∃ i, i < len ∧ d = (z i).2.1 := fun d hd => by
      obtain ⟨e, he, rfl⟩ := List.mem_map.1 hd
      obtain ⟨i, hi⟩ := List.mem_iff_getElem?.1 he
      have hlt := (List.getElem?_eq_some_iff.1 hi).1
      refine ⟨i, by omega, ?_⟩
      have := (hz i (by omega)).1
      rw [hi] at this
      injection this with this
      rw [this]
    have hb : Rows.uptoBulkAll (elems.map (·.1)) + 1 ≤ Rows.uptoBulk x.1 := by
      rw [hy]
      simp only [Rows.uptoBulk]
      omega
    refine ⟨(List.range len).map fun i => (z i).1, some a, cap, by simp, by simpa using hle, (fun h => by cases h), fun h0 => ?_, ?_⟩
    · obtain ⟨b, o, rfl, hlt, hc⟩ := rows_at (W := W) (s := 1) (cells := fun n : Int => [Value.int .i64 n]) (z := fun i => (z i).1) (fun _ => rfl) (by omega) (fun i hi => (hz i hi).2.1) (by simpa using h0)
      refine ⟨b, o, rfl, hlt, fun i hi => ?_⟩
      have hi : i < len := by simpa using hi
      rw [getD_map_range (fun y : Int × (DataW H × List MemPlace) => y.1) z len i 0 hi]
      simpa using hc i hi 0 _ rfl
    · have h1 := len_bulk (elems.map (·.1)) fun d hd => by
        obtain ⟨i, hi, rfl⟩ := hmem d hd
        exact (hz i hi).2.2
      simp only [List.length_map, List.length_range] at h1 ⊢
      omega
/-- Bounds of a node that came in. -/
def okX (N : Nat) (x : Nd) : Prop := okI N x.v ∧ okF N x.f ∧ x.l.length + x.f.length ≤ N
theorem okI_up {N N' : Nat} {t : It} (h : okI N t) (hN : N ≤ N') : okI N' t := ⟨Nat.le_trans h.1 hN, fun d p hp => ⟨(h.2 d p hp).1, (h.2 d p hp).2.1, Nat.le_trans (h.2 d p hp).2.2 hN⟩⟩
theorem okX.up {N N' : Nat} {x : Nd} (h : okX N x) (hN : N ≤ N') : okX N' x := ⟨okI_up h.1 hN, fun y hy => Nat.le_trans (h.2.1 y hy) hN, Nat.le_trans h.2.2 hN⟩
theorem okX.ok {N : Nat} {x : Nd} (h : okX N x) (hN : N ≤ 1048576) : okN x := ⟨(h.up hN).1, (h.up hN).2.1, Nat.le_trans (h.up hN).2.2 (by decide)⟩
set_option maxRecDepth 100000 in
theorem trod_node {f : Nat} {cs : List Value} {x : DataW H × List MemPlace} (h : DataW.trod enc Tryz.prog W 0 (fun _ => true) true f 47 cs = some x) :
    ∃ (y : Nd) (p : Pl), cs = (nc y p).toList ∧ NdB W W.heap.size y p ∧ okX (Rows.uptoBulk x.1) y ∧ 1 ≤ Rows.uptoBulk x.1 := by
  obtain ⟨xs, m, rfl, rfl, hl, hlen, hf⟩ := DataW.trod_struct Tryz.underlying47 h
  have hC : Tryz.prog.cellsOf 47 = 9 := by kernel_rfl
  rw [hC] at hl
  obtain ⟨c0, c1, c2, c3, c4, c5, c6, c7, c8, rfl⟩ : ∃ c0 c1 c2 c3 c4 c5 c6 c7 c8, cs = [c0, c1, c2, c3, c4, c5, c6, c7, c8] := by
    match cs, hl with
    | [c0, c1, c2, c3, c4, c5, c6, c7, c8], _ => exact ⟨c0, c1, c2, c3, c4, c5, c6, c7, c8, rfl⟩
  obtain ⟨y0, y1, y2, y3, y4, y5, rfl⟩ : ∃ y0 y1 y2 y3 y4 y5, xs = [y0, y1, y2, y3, y4, y5] := by
    match xs, hlen with
    | [y0, y1, y2, y3, y4, y5], _ => exact ⟨y0, y1, y2, y3, y4, y5, rfl⟩
  have g0 := hf 0 _ rfl
  have g1 := hf 1 _ rfl
  have g2 := hf 2 _ rfl
  have g3 := hf 3 _ rfl
  have g4 := hf 4 _ rfl
  have g5 := hf 5 _ rfl
  have k0 : Tryz.prog.cellsOf 3 = 1 := by kernel_rfl
  have k1 : Tryz.prog.cellsOf 28 = 4 := by kernel_rfl
  have k2 : Tryz.prog.cellsOf 35 = 1 := by kernel_rfl
  have k3 : Tryz.prog.cellsOf 45 = 1 := by kernel_rfl
  simp [k0, k1, k2, k3] at g0 g1 g2 g3 g4 g5
  obtain ⟨k, e0, rfl, _⟩ := DataW.trod_int Tryz.underlying3 g0
  obtain ⟨lo, e1, rfl, _⟩ := DataW.trod_int Tryz.underlying3 g1
  obtain ⟨hi, e2, rfl, _⟩ := DataW.trod_int Tryz.underlying3 g2
  obtain ⟨v, Av, cv, e3, hv, hov⟩ := trod_item _ _ _ g3
  obtain ⟨zs, Al, cl, e4, hll, hln, hl4, hbl⟩ := trod_ints g4
  obtain ⟨fs, Af, cf, e5, hfl, hfn, hf5, hok, hbf⟩ := trod_fields g5
  injection e0 with e0
  injection e1 with e1
  injection e2 with e2
  subst e0 e1 e2
  simp only [ic, List.cons.injEq, and_true] at e3
  obtain ⟨rfl, rfl, rfl, rfl⟩ := e3
  subst e4 e5
  have hb : Rows.uptoBulk (DataW.agg (H := H) [.lit (.int .i64 k), .lit (.int .i64 lo), .lit (.int .i64 hi), y3.1, y4.1, y5.1]) = Rows.uptoBulk y3.1 + Rows.uptoBulk y4.1 + Rows.uptoBulk y5.1 + 4 := by
    simp [Rows.uptoBulk, Rows.uptoBulkAll]
    omega
  refine ⟨⟨k, lo, hi, v, zs, fs⟩, ⟨Av, cv, Al, cl, Af, cf⟩, rfl, ⟨hv.toB, hl4, hll, hln, hf5, hfl, hfn⟩, ?_, ?_⟩
  · simp only [List.map_cons, List.map_nil]
    rw [hb]
    exact ⟨okI_up hov (by omega), fun y hy => Nat.le_trans (hok y hy) (by omega), by show zs.length + fs.length ≤ _; omega⟩
  · simp only [List.map_cons, List.map_nil]
    rw [hb]
    omega
set_option maxRecDepth 100000 in
theorem trod_nodes {f : Nat} {c : Value} {x : DataW H × List MemPlace} (h : DataW.trod enc Tryz.prog W 0 (fun _ => true) true f 22 [c] = some x) :
    ∃ (xs : List Nd) (A : Option Addr) (cap : Nat), c = .slice A xs.length cap ∧ RdN W W.heap.size A xs ∧ (∀ y ∈ xs, okX (Rows.uptoBulk x.1) y) ∧ xs.length + 1 ≤ Rows.uptoBulk x.1 := by
  have hC : Tryz.prog.cellsOf 47 = 9 := by kernel_rfl
  rcases DataW.trod_slice Tryz.underlying22 h with ⟨hcs, hy⟩ | ⟨a, len, cap, elems, rest, q, hq, hcs, hy, _, hle, hm, hel, hall, _, _⟩
  · injection hcs with hcs
    subst hcs
    rw [hy]
    exact ⟨[], none, 0, rfl, fun h => absurd h (by simp), fun y hy => (by cases hy), by simp [Rows.uptoBulk]⟩
  · injection hcs with hcs
    subst hcs
    rw [hC] at hall
    have each : ∀ i, i < len → ∃ z : Nd × Pl × (DataW H × List MemPlace), elems[i]? = some z.2.2 ∧ (∃ cs', W.cells? 0 (a.add (i * 9)) 9 = some cs' ∧ cs' = (nc z.1 z.2.1).toList) ∧ NdB W W.heap.size z.1 z.2.1 ∧ okX (Rows.uptoBulk z.2.2.1) z.1 ∧ 1 ≤ Rows.uptoBulk z.2.2.1 := by
      intro i hi
      have := hall i hi
      rw [List.getElem?_eq_getElem (by omega)] at this
      obtain ⟨cs', h1, h2⟩ := Option.bind_eq_some_iff.1 this
      obtain ⟨y, p, h3, h4, h5, h6⟩ := trod_node h2
      exact ⟨(y, p, elems[i]), List.getElem?_eq_getElem (by omega), ⟨cs', h1, h3⟩, h4, h5, h6⟩
    obtain ⟨z, hz⟩ := Go.Deep.choose_lt (α := Nd × Pl × (DataW H × List MemPlace)) each
    have hmem : ∀ d ∈ elems.map (·.1), ∃ i, i < len ∧ d = (z i).2.2.1 := fun d hd => by
      obtain ⟨e, he, rfl⟩ := List.mem_map.1 hd
      obtain ⟨i, hi⟩ := List.mem_iff_getElem?.1 he
      have hlt := (List.getElem?_eq_some_iff.1 hi).1
      refine ⟨i, by omega, ?_⟩
      have := (hz i (by omega)).1
      rw [hi] at this
      injection this with this
      rw [this]
    have hb : Rows.uptoBulkAll (elems.map (·.1)) + 1 ≤ Rows.uptoBulk x.1 := by
      rw [hy]
      simp only [Rows.uptoBulk]
      omega
    refine ⟨(List.range len).map fun i => (z i).1, some a, cap, by simp, fun h0 => ?_, fun y hy => ?_, ?_⟩
    · obtain ⟨b, o, rfl, hlt, hc⟩ := rows_at (W := W) (s := 9) (cells := fun y : Nd × Pl => (nc y.1 y.2).toList) (z := fun i => ((z i).1, (z i).2.1)) (fun _ => rfl) (by omega) (fun i hi => (hz i hi).2.1) (by simpa using h0)
      refine ⟨b, o, rfl, hlt, hlt, fun i y hy => ?_⟩
      have hi : i < len := by have := (List.getElem?_eq_some_iff.1 hy).1; simpa using this
      rw [List.getElem?_map, List.getElem?_range hi] at hy
      injection hy with hy
      subst hy
      exact ⟨(z i).2.1, (hz i hi).2.2.1, fun j u hu => hc i hi j u (by simpa using hu)⟩
    · obtain ⟨i, hi, rfl⟩ := List.mem_map.1 hy
      rw [List.mem_range] at hi
      have h1 := (hz i hi).2.2.2.1
      have h2 := bulk_mem (d := (z i).2.2.1) (ds := elems.map (·.1)) (List.mem_map.2 ⟨_, List.mem_of_getElem? (hz i hi).1, rfl⟩)
      exact h1.up (by omega)
    · have h1 := len_bulk (elems.map (·.1)) fun d hd => by
        obtain ⟨i, hi, rfl⟩ := hmem d hd
        exact (hz i hi).2.2.2.2
      simp only [List.length_map, List.length_range] at h1 ⊢
      omega
set_option maxRecDepth 100000 in
/-- A schema among the arguments. -/
theorem open_schema {b0 : Nat} {v : Value} {d : DataW H} {ps : List MemPlace} (hval : Value.okWide Tryz.prog W .any b0 24 v) (hd : DataW.Trod enc Tryz.prog W 0 (fun _ => true) true 24 v d ps) (hN : Rows.uptoBulk d ≤ 1048576) :
    ∃ xs A cap, v = vS A xs cap ∧ RdN W W.heap.size A xs ∧ (∀ y ∈ xs, okN y) ∧ xs.length ≤ 1048576 := by
  obtain ⟨cs, rfl, _⟩ := okWide_struct Tryz.underlying24 hval
  obtain ⟨fuel, hf⟩ := hd
  obtain ⟨xs, m, e1, e2, hl, hlen, hg⟩ := DataW.trod_struct Tryz.underlying24 hf
  have hC : Tryz.prog.cellsOf 24 = 1 := by kernel_rfl
  rw [hC] at hl
  obtain ⟨c0, hc⟩ : ∃ c0, cs = #[c0] := by
    have hl' : cs.toList.length = 1 := by simpa [Value.cells] using hl
    match h : cs.toList, hl' with
    | [c0], _ => exact ⟨c0, by apply Array.ext'; rw [h]⟩
  subst hc
  obtain ⟨y0, rfl⟩ : ∃ y0, xs = [y0] := by
    match xs, hlen with
    | [y0], _ => exact ⟨y0, rfl⟩
  have g0 := hg 0 _ rfl
  have k0 : Tryz.prog.cellsOf 22 = 1 := by kernel_rfl
  simp [k0, Value.cells] at g0
  obtain ⟨zs, A, cap, rfl, h1, h2, h3⟩ := trod_nodes g0
  have hb : Rows.uptoBulk d = Rows.uptoBulk y0.1 + 1 := by
    have : d = DataW.agg [y0.1] := by simpa using congrArg Prod.fst e2
    rw [this]
    simp [Rows.uptoBulk, Rows.uptoBulkAll]
  exact ⟨zs, A, cap, rfl, h1, fun y hy => (h2 y hy).ok (by omega), by omega⟩
end
end Go.Proofs.YtjelgoeamaejmaaGreat

/- Append of a slice that reads as cells to one of the call's own, as an arm of a region that draws. -/
namespace Go.Proofs.YtjelgoeamaejmaaGreat
open Go.RowKit

/-- A slice reads as these cells. -/
def RdC (w : World) (y : Value) (xs : List Value) : Prop := ∃ A cap, y = .slice A xs.length cap ∧ (A = none → cap = 0) ∧ (0 < xs.length → ∃ b o, A = some ⟨b, o, none⟩ ∧ ∀ j, j < xs.length → w.cell? ⟨b, o + j, none⟩ = xs[j]?)
section
variable {P : Program}
theorem run_append_row {w : World} {B : Nat} {t ty e : TypeId} {bytes : Nat} {v y z : Value} {n : Nat} {cs xs : List Value} (ht : P.underlying t = some (.slice e))
    (hi : (P.info? e).map (fun i => (i.zero, i.size, i.bytes)) = some (some z, 1, bytes)) (hz : z.cells.size = 1) (hby : bytes ≤ 64)
    (hown : w.ownsRow B e 1 v n cs) (hr : RdC w y xs) (h1 : ∀ u ∈ xs, u.oneCell' = true) (hb : n + xs.length ≤ 1099511627776) (hB : B ≤ w.heap.size) :
    ∃ v' w', (Builtin.append_ #[t, t] ty #[v, y]).run P w = .ok v' w' ∧ w'.ownsRow B e 1 v' (n + xs.length) (cs ++ xs) ∧ Below B w w' ∧ w.grownBy w' v.ownBlock := by
  obtain ⟨A, cap, rfl, hn, hc⟩ := hr
  cases A with
  | none =>
    obtain rfl := hn rfl
    have hx : xs = [] := by
      rcases xs with _ | ⟨x, r⟩
      · rfl
      · obtain ⟨b, o, h, _⟩ := hc (by simp)
        cases h
    subst hx
    obtain ⟨i, hi0, hz0, hz1, hz2⟩ := info_parts hi
    exact ⟨v, w, run_append_owned_none (P := P) w B t ty e i 1 ht hi0 v _ _ hown, by simpa using hown, Below.refl _ _, World.grownBy.refl _ _⟩
  | some ad =>
    obtain ⟨v', w', r1, r2, r3, r4, _⟩ := oc_append (P := P) (t := t) (ty := ty) (e := e) (s := 1) (bytes := bytes) (m := xs.length) (c := cap) (news := xs) (a := ad) ht hi hz (by decide) hby hown (by omega)
      (fun j u hj => by
        have hj' : j < xs.length := by
          rcases Nat.lt_or_ge j xs.length with h | h
          · exact h
          · rw [List.getElem?_eq_none h] at hj; cases hj
        obtain ⟨b, o, hA, hcell⟩ := hc (by omega)
        injection hA with hA
        subst hA
        rw [Addr.add_mid, hcell j hj']
        exact hj) h1 hb hB
    exact ⟨v', w', r1, r2, r3, r4⟩
/-- For an arm of a region that draws: append of such a slice to one of the call's own. -/
theorem step_append_row {ops : Array Oper} {o : Oper} {a : Act} {w : World} {K : Act → World → Prop} {Q : Exit → Act → World → Prop} {E : Prop} (hgd : o.guard = none) {s x : Operand} {t e : TypeId}
    (ho : o.op = .call { callee := .builtin .append, args := #[s, x], argTypes := #[t, t] }) {B bytes : Nat} {v y z : Value} {n : Nat} {cs xs : List Value} (hs : a.eval s = v) (hx : a.eval x = y)
    (ht : P.underlying t = some (.slice e)) (hi : (P.info? e).map (fun i => (i.zero, i.size, i.bytes)) = some (some z, 1, bytes)) (hz : z.cells.size = 1) (hby : bytes ≤ 64)
    (hown : w.ownsRow B e 1 v n cs) (hr : RdC w y xs) (h1 : ∀ u ∈ xs, u.oneCell' = true) (hb : n + xs.length ≤ 1099511627776) (hB : B ≤ w.heap.size)
    (h : ∀ v' w', w'.ownsRow B e 1 v' (n + xs.length) (cs ++ xs) → Below B w w' → w.grownBy w' v.ownBlock → K (a.put o.dst v') w') : if Region.wanted o (yielded ops a.tmps) = true then Oper.wp P o a w K Q else E := by
  obtain ⟨v', w', r1, r2, r3, r4⟩ := run_append_row (ty := o.type) ht hi hz hby hown hr h1 hb hB
  exact step_append_run hgd ho r1 hs hx (h v' w' r2 r3 r4)
end

theorem RdC.on {w w' : World} {y : Value} {xs : List Value} (h : RdC w y xs) (hb : Below w.heap.size w w') : RdC w' y xs := by
  obtain ⟨A, cap, h1, h2, h3⟩ := h
  refine ⟨A, cap, h1, h2, fun hp => ?_⟩
  obtain ⟨b, o, hA, hc⟩ := h3 hp
  refine ⟨b, o, hA, fun j hj => ?_⟩
  have h4 := hc j hj
  rw [List.getElem?_eq_getElem hj] at h4 ⊢
  rw [hb.cell (p := ⟨b, o + j, none⟩) (block_lt_of_cell h4)]
  exact h4
/-- A block of another type is left alone. -/
theorem blk_grown {w w' : World} {B g s n : Nat} {e t : TypeId} {v : Value} {cs : List Value} {zs : Array Value} (hb : Blk w g t zs) (h : w.ownsRow B e s v n cs) (ht : t ≠ e) (hg : w.grownBy w' v.ownBlock) : Blk w' g t zs := by
  refine (hg.block g hb.lt ?_).trans hb
  intro he
  rcases h.2 with ⟨rfl, _⟩ | ⟨g', cap, cur, rfl, _, hh, _⟩
  · cases he
  · have e' : g = g' := by simpa [Value.ownBlock] using he
    subst e'
    have := hb.symm.trans hh
    injection this with this
    injection this with _ h2 _
    exact ht h2
theorem Rd.rdc {w : World} {k : IntKind} {A : Option Addr} {zs : List Int} {cap : Nat} (h : Rd w w.heap.size k A zs) (hn : A = none → cap = 0) : RdC w (.slice A zs.length cap) (zs.map (Value.int k)) := by
  refine ⟨A, cap, by rw [List.length_map], hn, fun hp => ?_⟩
  rw [List.length_map] at hp
  obtain ⟨b, o, hA, _, hc⟩ := h hp
  refine ⟨b, o, hA, fun j hj => ?_⟩
  rw [List.length_map] at hj
  rw [hc j hj, List.getElem?_map, List.getElem?_eq_getElem hj]
  simp [List.getD_eq_getElem?_getD, hj]
theorem rd_owned {w : World} {B n : Nat} {e : TypeId} {k : IntKind} {v : Value} {zs : List Int} (h : w.ownsRow B e 1 v n (zs.map (Value.int k))) (hn : n = zs.length) : ∃ A cap, v = .slice A zs.length cap ∧ Rd w w.heap.size k A zs := by
  subst hn
  have ho : Own w B k e v zs := h
  obtain ⟨A, cap, h1, _, _, _, _, h2⟩ := ho.form
  exact ⟨A, cap, h1, h2⟩
end Go.Proofs.YtjelgoeamaejmaaGreat

/- Rows of several cells: append of a slice that reads so, heads and tails of a slice of the call's own. -/
namespace Go.Proofs.YtjelgoeamaejmaaGreat
open Go.RowKit

/-- A slice of m elements of s cells reads as these cells. -/
def RdK (w : World) (s : Nat) (y : Value) (m : Nat) (xs : List Value) : Prop := ∃ A cap, y = .slice A m cap ∧ xs.length = m * s ∧ (A = none → cap = 0 ∧ m = 0) ∧ (0 < m → ∃ b o, A = some ⟨b, o, none⟩ ∧ ∀ j, j < m * s → w.cell? ⟨b, o + j, none⟩ = xs[j]?)
section
variable {P : Program}
theorem run_append_rowK {w : World} {B : Nat} {t ty e : TypeId} {s bytes : Nat} {v y z : Value} {n m : Nat} {cs xs : List Value} (ht : P.underlying t = some (.slice e))
    (hi : (P.info? e).map (fun i => (i.zero, i.size, i.bytes)) = some (some z, s, bytes)) (hz : z.cells.size = s) (hs0 : 0 < s) (hby : bytes ≤ 64)
    (hown : w.ownsRow B e s v n cs) (hr : RdK w s y m xs) (h1 : ∀ u ∈ xs, u.oneCell' = true) (hb : n + m ≤ 1099511627776) (hB : B ≤ w.heap.size) :
    ∃ v' w', (Builtin.append_ #[t, t] ty #[v, y]).run P w = .ok v' w' ∧ w'.ownsRow B e s v' (n + m) (cs ++ xs) ∧ Below B w w' ∧ w.grownBy w' v.ownBlock ∧ (v'.ownBlock = v.ownBlock ∨ v'.ownBlock = some w.heap.size) := by
  obtain ⟨A, cap, rfl, hl, hn, hc⟩ := hr
  cases A with
  | none =>
    obtain ⟨rfl, rfl⟩ := hn rfl
    have hx : xs = [] := List.length_eq_zero_iff.1 (by omega)
    subst hx
    obtain ⟨i, hi0, hz0, hz1, hz2⟩ := info_parts hi
    exact ⟨v, w, run_append_owned_none (P := P) w B t ty e i s ht hi0 v _ _ hown, by simpa using hown, Below.refl _ _, World.grownBy.refl _ _, .inl rfl⟩
  | some ad =>
    exact oc_append (P := P) (t := t) (ty := ty) (e := e) (s := s) (bytes := bytes) (m := m) (c := cap) (news := xs) (a := ad) ht hi hz hs0 hby hown hl
      (fun j u hj => by
        have hj' : j < xs.length := (List.getElem?_eq_some_iff.1 hj).1
        have hm : 0 < m := by
          rcases Nat.eq_zero_or_pos m with h | h
          · subst h; omega
          · exact h
        obtain ⟨b, o, hA, hcell⟩ := hc hm
        injection hA with hA
        subst hA
        rw [Addr.add_mid, hcell j (by omega)]
        exact hj) h1 hb hB
/-- For an arm of a region that draws. -/
theorem step_append_rowK {ops : Array Oper} {o : Oper} {a : Act} {w : World} {K : Act → World → Prop} {Q : Exit → Act → World → Prop} {E : Prop} (hgd : o.guard = none) {s x : Operand} {t e : TypeId}
    (ho : o.op = .call { callee := .builtin .append, args := #[s, x], argTypes := #[t, t] }) {B k bytes : Nat} {v y z : Value} {n m : Nat} {cs xs : List Value} (hs : a.eval s = v) (hx : a.eval x = y)
    (ht : P.underlying t = some (.slice e)) (hi : (P.info? e).map (fun i => (i.zero, i.size, i.bytes)) = some (some z, k, bytes)) (hz : z.cells.size = k) (hk0 : 0 < k) (hby : bytes ≤ 64)
    (hown : w.ownsRow B e k v n cs) (hr : RdK w k y m xs) (h1 : ∀ u ∈ xs, u.oneCell' = true) (hb : n + m ≤ 1099511627776) (hB : B ≤ w.heap.size)
    (h : ∀ v' w', w'.ownsRow B e k v' (n + m) (cs ++ xs) → Below B w w' → w.grownBy w' v.ownBlock → K (a.put o.dst v') w') : if Region.wanted o (yielded ops a.tmps) = true then Oper.wp P o a w K Q else E := by
  obtain ⟨v', w', r1, r2, r3, r4, _⟩ := run_append_rowK (ty := o.type) ht hi hz hk0 hby hown hr h1 hb hB
  exact step_append_run hgd ho r1 hs hx (h v' w' r2 r3 r4)
end
theorem RdK.on {w w' : World} {s m : Nat} {y : Value} {xs : List Value} (h : RdK w s y m xs) (hb : Below w.heap.size w w') : RdK w' s y m xs := by
  obtain ⟨A, cap, h1, hl, h2, h3⟩ := h
  refine ⟨A, cap, h1, hl, h2, fun hp => ?_⟩
  obtain ⟨b, o, hA, hc⟩ := h3 hp
  refine ⟨b, o, hA, fun j hj => ?_⟩
  have h4 := hc j hj
  rw [List.getElem?_eq_getElem (by omega)] at h4 ⊢
  rw [hb.cell (p := ⟨b, o + j, none⟩) (block_lt_of_cell h4)]
  exact h4
theorem oc_len {w : World} {B s n : Nat} {e : TypeId} {v : Value} {cs : List Value} (h : w.ownsRow B e s v n cs) : cs.length = n * s := h.1
theorem rdk_head {w : World} {B : Nat} {e : TypeId} {A : Option Addr} {m j ck s : Nat} {cs : List Value} (h : w.ownsRow B e s (.slice A m ck) j cs) {p : Nat} (hp : p ≤ j) (h0 : j = 0 → A = none → ck = 0) : RdK w s (.slice A p ck) p (cs.take (p * s)) := by
  obtain ⟨A', cap', hv, h1, _, h2, h3⟩ := oc_form h
  injection hv with e1 e2 e3
  subst e1 e3
  have hl := oc_len h
  have hps : p * s ≤ j * s := Nat.mul_le_mul_right s hp
  have hlp : (cs.take (p * s)).length = p * s := by rw [List.length_take]; omega
  refine ⟨A, ck, rfl, hlp, fun hn => ⟨h2 hn, ?_⟩, fun hp0 => ?_⟩
  · rcases Nat.eq_zero_or_pos j with hj | hj
    · omega
    · obtain ⟨g, cap2, hv2, _⟩ := oc_head h hj
      injection hv2 with e1 _ _
      rw [hn] at e1
      cases e1
  obtain ⟨g, cap2, hv2, _⟩ := oc_head h (by omega)
  injection hv2 with e1 e2 e3
  subst e1 e3
  refine ⟨g, 0, rfl, fun i hi => ?_⟩
  subst e2
  rw [Nat.zero_add, (oc_cell h (by omega)).1, List.getElem?_take_of_lt hi]
theorem rdk_tail {w : World} {B : Nat} {e : TypeId} {A : Option Addr} {m j ck s : Nat} {cs : List Value} (h : w.ownsRow B e s (.slice A m ck) j cs) {p : Nat} (hp : p ≤ j) : RdK w s (.slice (if ck = p then A else A.map (·.add (p * s))) (j - p) (ck - p)) (j - p) (cs.drop (p * s)) := by
  obtain ⟨A', cap', hv, h1, _, h2, h3⟩ := oc_form h
  injection hv with e1 e2 e3
  subst e1 e3
  have hl := oc_len h
  have hps : p * s ≤ j * s := Nat.mul_le_mul_right s hp
  have hlp : (cs.drop (p * s)).length = (j - p) * s := by rw [List.length_drop, hl, Nat.sub_mul]
  refine ⟨_, _, rfl, hlp, fun hn => ?_, fun hp0 => ?_⟩
  · by_cases hc : ck = p
    · omega
    · rw [if_neg hc] at hn
      have hA : A = none := by simpa using hn
      have := h2 hA
      rcases Nat.eq_zero_or_pos j with hj | hj
      · omega
      · obtain ⟨g, cap2, hv2, _⟩ := oc_head h hj
        injection hv2 with e1 _ _
        rw [hA] at e1
        cases e1
  have hlt : ∀ i, i < (j - p) * s → p * s + i < j * s := fun i hi => by rw [Nat.sub_mul] at hi; omega
  rw [if_neg (by omega)]
  obtain ⟨g, cap2, hv2, _⟩ := oc_head h (by omega)
  injection hv2 with e1 e2 e3
  subst e1 e3
  subst e2
  refine ⟨g, p * s, ?_, fun i hi => ?_⟩
  · show some (Addr.add ⟨g, 0, none⟩ (p * s)) = _
    rw [Addr.add_mid, Nat.zero_add]
  rw [(oc_cell h (hlt i hi)).1, List.getElem?_drop]
theorem rdk_blk {w : World} {g s : Nat} {t : TypeId} {us : Array Value} {c : Nat} (h : Blk w g t us) (hs : us.size = s) : RdK w s (.slice (some ⟨g, 0, none⟩) 1 c) 1 us.toList := ⟨_, _, rfl, by simp [hs], (fun h => by cases h), fun _ => ⟨g, 0, rfl, fun j _ => by
  rw [h.cell, Nat.zero_add]
  simp⟩⟩
end Go.Proofs.YtjelgoeamaejmaaGreat

/- Rows of several cells, one behind the other, flat. -/
namespace Go.Proofs.YtjelgoeamaejmaaGreat
open Go.RowKit

theorem infoField : (Tryz.prog.info? 53).map (fun i => (i.zero, i.size, i.bytes)) = some (some (.agg #[.string ⟨#[]⟩, .int .i64 0, .bool false]), 3, 32) := by kernel_rfl
theorem fc_one (l : List Fl) : ∀ u ∈ l.flatMap fc, u.oneCell' = true := by
  intro u hu
  obtain ⟨x, _, hx⟩ := List.mem_flatMap.1 hu
  simp only [fc, List.mem_cons, List.not_mem_nil, or_false] at hx
  rcases hx with rfl | rfl | rfl <;> rfl
theorem fc_len (l : List Fl) : (l.flatMap fc).length = l.length * 3 := by
  induction l with
  | nil => rfl
  | cons x l ih => rw [List.flatMap_cons, List.length_append, ih, List.length_cons]; simp [fc]; omega
theorem flat_at {α : Type} {s : Nat} {c : α → List Value} (hs : ∀ x, (c x).length = s) : ∀ (l : List α) (i : Nat) (x : α) (j : Nat), l[i]? = some x → j < s → (l.flatMap c)[i * s + j]? = (c x)[j]?
  | [], i, x, j, h, _ => by simp at h
  | y :: l, 0, x, j, h, hj => by
    have : y = x := by simpa using h
    subst this
    rw [List.flatMap_cons, List.getElem?_append_left (by rw [hs]; omega)]
    congr 1; omega
  | y :: l, i + 1, x, j, h, hj => by
    rw [List.flatMap_cons, List.getElem?_append_right (by rw [hs, Nat.succ_mul]; omega), hs]
    have := flat_at hs l i x j (by simpa using h) hj
    rw [← this]
    congr 1
    rw [Nat.succ_mul]; omega
theorem flat_take {α : Type} {s : Nat} {c : α → List Value} (hs : ∀ x, (c x).length = s) (l : List α) (k : Nat) : (l.flatMap c).take (k * s) = (l.take k).flatMap c := by
  induction k generalizing l with
  | zero => simp
  | succ k ih =>
    cases l with
    | nil => simp
    | cons x l => rw [List.flatMap_cons, List.take_succ_cons, List.flatMap_cons, ← ih l, List.take_append, hs, List.take_of_length_le (by rw [hs, Nat.succ_mul]; omega), Nat.succ_mul, Nat.add_sub_cancel]
theorem flat_drop {α : Type} {s : Nat} {c : α → List Value} (hs : ∀ x, (c x).length = s) (l : List α) (k : Nat) : (l.flatMap c).drop (k * s) = (l.drop k).flatMap c := by
  induction k generalizing l with
  | zero => simp
  | succ k ih =>
    cases l with
    | nil => simp
    | cons x l => rw [List.flatMap_cons, List.drop_succ_cons, ← ih l, List.drop_append, hs, List.drop_of_length_le (by rw [hs, Nat.succ_mul]; omega), Nat.succ_mul, Nat.add_sub_cancel, List.nil_append]
end Go.Proofs.YtjelgoeamaejmaaGreat

/- Rows of the call's own: one element more. -/
namespace Go.Proofs.YtjelgoeamaejmaaGreat
open Go.RowKit

section
variable {w w' : World} {B B' : Nat} {v : Value}
/-- A row of another element type is left alone by an append. -/
theorem row_grown {t e : TypeId} {s n s' n' : Nat} {u : Value} {cs cs' : List Value} (h : w.ownsRow B t s' u n' cs') (h' : w.ownsRow B' e s v n cs) (ht : t ≠ e) (hg : w.grownBy w' v.ownBlock) : w'.ownsRow B t s' u n' cs' := by
  refine ⟨h.1, ?_⟩
  rcases h.2 with h2 | ⟨g, cap, cur, hv, hB, hh, r⟩
  · exact .inl h2
  · exact .inr ⟨g, cap, cur, hv, hB, blk_grown (w := w) (w' := w') (g := g) (t := t) (zs := cur) hh h' ht hg, r⟩
end
section
variable {P : Program}
/-- One more element behind a row of the call's own: the slice that holds it lies at the end of the memory. -/
theorem push_row {w : World} {B : Nat} {t ty e : TypeId} {s bytes : Nat} {v z : Value} {n : Nat} {cs : List Value} {arr : Array Value} (ht : P.underlying t = some (.slice e))
    (hi : (P.info? e).map (fun i => (i.zero, i.size, i.bytes)) = some (some z, s, bytes)) (hz : z.cells.size = s) (hs0 : 0 < s) (hby : bytes ≤ 128) (hown : w.ownsRow B e s v n cs) (ha : arr.size = s) (h1 : ∀ u ∈ arr.toList, u.oneCell' = true)
    (hb : n + 1 ≤ 1099511627776) (hB : B ≤ w.heap.size) :
    ∃ v' w', (Builtin.append_ #[t, t] ty #[v, .slice (some ⟨w.heap.size, 0, none⟩) 1 1]).run P (w.alloc (.cells arr e)) = .ok v' w' ∧ w'.ownsRow B e s v' (n + 1) (cs ++ arr.toList) ∧ Below B w w' ∧ (w.alloc (.cells arr e)).grownBy w' v.ownBlock := by
  have hA : Blk (w.alloc (.cells arr e)) w.heap.size e arr := Blk.fresh w e arr
  have hO := oc_alloc hown (.cells arr e)
  obtain ⟨i, hi0, hz0, hz1, hz2⟩ := info_parts hi
  have hm : (n + 1) * bytes ≤ 140737488355328 := Nat.le_trans (Nat.mul_le_mul hb hby) (by omega : 1099511627776 * 128 ≤ 140737488355328)
  obtain ⟨v', w', r1, r2, r4, _, _⟩ := run_append_own_at (P := P) (w.alloc (.cells arr e)) B t ty e i z s bytes ht hi0 hz0 hz1 hz2 hz hs0 v n cs hO ⟨w.heap.size, 0, none⟩ 1 1 arr.toList (by simpa using ha)
    (fun j u hj => by
      rw [Addr.add_mid, Nat.zero_add, hA.cell]
      simpa using hj) h1 (by unfold maxLen; omega) hm (by simp; omega)
  have r3 := oc_grown hO r4 (by simp; omega)
  exact ⟨v', w', r1, r2, ((below_alloc w _).mono hB).trans r3, r4⟩
end
/-- One cell of one element of a flat row. -/
theorem flat_put {α : Type} {s : Nat} {c : α → List Value} (hs : ∀ x, (c x).length = s) : ∀ (l : List α) (k i : Nat) (x y : α) (u : Value), l[k]? = some x → i < s → c y = (c x).set i u → (l.set k y).flatMap c = (l.flatMap c).set (k * s + i) u
  | [], k, i, x, y, u, h, _, _ => by simp at h
  | z :: l, 0, i, x, y, u, h, hi, hy => by
    obtain rfl : z = x := by simpa using h
    rw [List.set_cons_zero, List.flatMap_cons, List.flatMap_cons, hy, Nat.zero_mul, Nat.zero_add, List.set_append_left _ _ (by rw [hs]; exact hi)]
  | z :: l, k + 1, i, x, y, u, h, hi, hy => by
    rw [List.set_cons_succ, List.flatMap_cons, List.flatMap_cons, flat_put hs l k i x y u (by simpa using h) hi hy, List.set_append_right _ _ (by rw [hs, Nat.succ_mul]; omega), hs]
    congr 2
    rw [Nat.succ_mul]; omega
end Go.Proofs.YtjelgoeamaejmaaGreat
