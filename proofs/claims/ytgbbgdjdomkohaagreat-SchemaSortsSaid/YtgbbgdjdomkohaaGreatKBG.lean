/- Schemas in memory. -/
import Derived.Test.YtgbbgdjdomkohaaGreatKBF
import Derived.Test.YtgbbgdjdomkohaaGreatKAO
import Derived.Deep.RegionLaw
import Derived.Shelf.SlGeneric
import Derived.Ground.SlsfProg
import Derived.Shelf.SlLaysF0
import Derived.Shelf.SlLaysF
import Derived.Test.YtgbbgdjdomkohaaGreatProg
namespace Go.Proofs.YtgbbgdjdomkohaaGreat
open Go.RowKit

/-- Fields, one behind the other, below block B. -/
def RdF (w : World) (B : Nat) (A : Option Addr) (fs : List Fl) : Prop :=
  0 < fs.length → ∃ b o, A = some ⟨b, o, none⟩ ∧ b < B ∧ b < w.heap.size ∧ ∀ i x, fs[i]? = some x → w.cell? ⟨b, o + i * 3, none⟩ = some (.string x.key) ∧ w.cell? ⟨b, o + i * 3 + 1, none⟩ = some (.int .i64 x.node) ∧ w.cell? ⟨b, o + i * 3 + 2, none⟩ = some (.bool x.opt)
/-- Where a node's lists lie. -/
structure Pl where
  Av : Option Addr
  cv : Nat
  Al : Option Addr
  cl : Nat
  Af : Option Addr
  cf : Nat
/-- A node's lists lie in memory, all below block n. -/
structure NdB (w : World) (n : Nat) (x : Nd) (p : Pl) : Prop where
  v : AtB w n x.v p.Av p.cv
  l : Rd w n .i64 p.Al x.l
  ll : x.l.length ≤ p.cl
  ln : p.Al = none → p.cl = 0
  f : RdF w n p.Af x.f
  fl : x.f.length ≤ p.cf
  fn : p.Af = none → p.cf = 0
/-- A node by value; its cells. -/
def vN (x : Nd) (p : Pl) : Value := .agg #[.int .i64 x.k, .int .i64 x.lo, .int .i64 x.hi, .int .i64 x.v.k, .int .u64 x.v.n, .string x.v.s, .slice p.Av x.v.l.length p.cv, .slice p.Al x.l.length p.cl, .slice p.Af x.f.length p.cf]
def nc (x : Nd) (p : Pl) : Array Value := #[.int .i64 x.k, .int .i64 x.lo, .int .i64 x.hi, .int .i64 x.v.k, .int .u64 x.v.n, .string x.v.s, .slice p.Av x.v.l.length p.cv, .slice p.Al x.l.length p.cl, .slice p.Af x.f.length p.cf]
/-- Nodes, one behind the other. -/
def RdN (w : World) (B : Nat) (A : Option Addr) (xs : List Nd) : Prop :=
  0 < xs.length → ∃ b o, A = some ⟨b, o, none⟩ ∧ b < B ∧ b < w.heap.size ∧ ∀ i x, xs[i]? = some x → ∃ p, NdB w B x p ∧ ∀ j u, (nc x p)[j]? = some u → w.cell? ⟨b, o + i * 9 + j, none⟩ = some u
/-- A schema by value. -/
def vS (A : Option Addr) (xs : List Nd) (cap : Nat) : Value := .agg #[.slice A xs.length cap]
section
variable {w w' : World} {n n' B : Nat} {A : Option Addr} {fs : List Fl} {x : Nd} {p : Pl} {xs : List Nd}
theorem RdF.keep (h : RdF w n A fs) (hb : Below n w w') : RdF w' n A fs := fun hn => by
  obtain ⟨b, o, rfl, hlt, h2, hc⟩ := h hn
  exact ⟨b, o, rfl, hlt, lt_kept (hb.block b hlt) h2, fun i x hx => ⟨cell_kept' (hb.block b hlt) (hc i x hx).1, cell_kept' (hb.block b hlt) (hc i x hx).2.1, cell_kept' (hb.block b hlt) (hc i x hx).2.2⟩⟩
theorem RdF.more (h : RdF w n A fs) (hn : n ≤ n') : RdF w n' A fs := fun h0 => by
  obtain ⟨b, o, rfl, hlt, hc⟩ := h h0
  exact ⟨b, o, rfl, Nat.lt_of_lt_of_le hlt hn, hc⟩
theorem RdF.nil : RdF w n A [] := fun h => absurd h (by simp)
theorem RdF.get (h : RdF w n A fs) {i : Nat} (hi : i < fs.length) : ∃ b o x, A = some ⟨b, o, none⟩ ∧ b < n ∧ b < w.heap.size ∧ fs[i]? = some x ∧ w.cell? ⟨b, o + i * 3, none⟩ = some (.string x.key) ∧ w.cell? ⟨b, o + i * 3 + 1, none⟩ = some (.int .i64 x.node) ∧ w.cell? ⟨b, o + i * 3 + 2, none⟩ = some (.bool x.opt) := by
  obtain ⟨b, o, rfl, h1, h2, hc⟩ := h (by omega)
  exact ⟨b, o, fs[i], rfl, h1, h2, List.getElem?_eq_getElem hi, hc i _ (List.getElem?_eq_getElem hi)⟩
theorem NdB.keep (h : NdB w n x p) (hb : Below n w w') : NdB w' n x p := ⟨h.v.keep hb, h.l.below hb, h.ll, h.ln, h.f.keep hb, h.fl, h.fn⟩
theorem NdB.more (h : NdB w n x p) (hn : n ≤ n') : NdB w n' x p := ⟨h.v.more hn, h.l.more hn, h.ll, h.ln, h.f.more hn, h.fl, h.fn⟩
theorem RdN.keep (h : RdN w n A xs) (hb : Below n w w') : RdN w' n A xs := fun hn => by
  obtain ⟨b, o, rfl, hlt, h2, hc⟩ := h hn
  refine ⟨b, o, rfl, hlt, lt_kept (hb.block b hlt) h2, fun i x hx => ?_⟩
  obtain ⟨p, h3, h4⟩ := hc i x hx
  exact ⟨p, h3.keep hb, fun j u hu => cell_kept' (hb.block b hlt) (h4 j u hu)⟩
theorem RdN.more (h : RdN w n A xs) (hn : n ≤ n') : RdN w n' A xs := fun h0 => by
  obtain ⟨b, o, rfl, hlt, h2, hc⟩ := h h0
  refine ⟨b, o, rfl, Nat.lt_of_lt_of_le hlt hn, h2, fun i x hx => ?_⟩
  obtain ⟨p, h3, h4⟩ := hc i x hx
  exact ⟨p, h3.more hn, h4⟩
theorem RdN.get (h : RdN w n A xs) {i : Nat} (hi : i < xs.length) : ∃ b o x p, A = some ⟨b, o, none⟩ ∧ b < n ∧ b < w.heap.size ∧ xs[i]? = some x ∧ x ∈ xs ∧ NdB w n x p ∧
    w.cell? ⟨b, o + i * 9, none⟩ = some (.int .i64 x.k) ∧ w.cell? ⟨b, o + i * 9 + 1, none⟩ = some (.int .i64 x.lo) ∧ w.cell? ⟨b, o + i * 9 + 2, none⟩ = some (.int .i64 x.hi) ∧
    w.cell? ⟨b, o + i * 9 + 3, none⟩ = some (.int .i64 x.v.k) ∧ w.cell? ⟨b, o + i * 9 + 4, none⟩ = some (.int .u64 x.v.n) ∧ w.cell? ⟨b, o + i * 9 + 5, none⟩ = some (.string x.v.s) ∧ w.cell? ⟨b, o + i * 9 + 6, none⟩ = some (.slice p.Av x.v.l.length p.cv) ∧
    w.cell? ⟨b, o + i * 9 + 7, none⟩ = some (.slice p.Al x.l.length p.cl) ∧ w.cell? ⟨b, o + i * 9 + 8, none⟩ = some (.slice p.Af x.f.length p.cf) := by
  obtain ⟨b, o, rfl, h1, h2, hc⟩ := h (by omega)
  obtain ⟨p, h3, h4⟩ := hc i xs[i] (List.getElem?_eq_getElem hi)
  exact ⟨b, o, xs[i], p, rfl, h1, h2, List.getElem?_eq_getElem hi, List.getElem_mem hi, h3, h4 0 _ rfl, h4 1 _ rfl, h4 2 _ rfl, h4 3 _ rfl, h4 4 _ rfl, h4 5 _ rfl, h4 6 _ rfl, h4 7 _ rfl, h4 8 _ rfl⟩
/-- A block that holds a node. -/
theorem nblk {w : World} {g : Nat} {t : TypeId} {a0 a1 a2 a3 a4 a5 a6 a7 a8 : Value} (h : Blk w g t #[a0, a1, a2, a3, a4, a5, a6, a7, a8]) :
    w.cell? ⟨g, 0, none⟩ = some a0 ∧ w.cell? ⟨g, 1, none⟩ = some a1 ∧ w.cell? ⟨g, 2, none⟩ = some a2 ∧ w.cell? ⟨g, 3, none⟩ = some a3 ∧ w.cell? ⟨g, 4, none⟩ = some a4 ∧ w.cell? ⟨g, 5, none⟩ = some a5 ∧ w.cell? ⟨g, 6, none⟩ = some a6 ∧ w.cell? ⟨g, 7, none⟩ = some a7 ∧ w.cell? ⟨g, 8, none⟩ = some a8 :=
  ⟨by rw [h.cell]; rfl, by rw [h.cell]; rfl, by rw [h.cell]; rfl, by rw [h.cell]; rfl, by rw [h.cell]; rfl, by rw [h.cell]; rfl, by rw [h.cell]; rfl, by rw [h.cell]; rfl, by rw [h.cell]; rfl⟩
theorem zIt_at (w : World) (n : Nat) : AtB w n zIt none 0 := ⟨Nat.le_refl _, fun _ => rfl, AtL.nil _⟩
theorem of_at (w : World) (n : Nat) (k : Int) : NdB w n (Nd.of k) ⟨none, 0, none, 0, none, 0⟩ :=
  ⟨zIt_at w n, fun h => absurd h (by simp [Nd.of]), Nat.le_refl _, fun _ => rfl, RdF.nil, Nat.le_refl _, fun _ => rfl⟩
end
end Go.Proofs.YtgbbgdjdomkohaaGreat

/- Append of a slice that reads as cells to one of the call's own, as an arm of a region that draws. -/
namespace Go.Proofs.YtgbbgdjdomkohaaGreat
open Go.RowKit

/-- A slice reads as these cells. -/
def RdC (w : World) (y : Value) (xs : List Value) : Prop := ∃ A cap, y = .slice A xs.length cap ∧ (A = none → cap = 0) ∧ (0 < xs.length → ∃ b o, A = some ⟨b, o, none⟩ ∧ ∀ j, j < xs.length → w.cell? ⟨b, o + j, none⟩ = xs[j]?)
section
variable {P : Program}
theorem run_append_row {w : World} {B : Nat} {t ty e : TypeId} {bytes : Nat} {v y z : Value} {n : Nat} {cs xs : List Value} (ht : P.underlying t = some (.slice e))
    (hi : (P.info? e).map (fun i => (i.zero, i.size, i.bytes)) = some (some z, 1, bytes)) (hz : z.cells.size = 1) (hby : bytes ≤ 64)
    (hown : w.ownsRow B e 1 v n cs) (hr : RdC w y xs) (h1 : ∀ u ∈ xs, u.oneCell' = true) (hb : n + xs.length ≤ 1099511627776) (hB : B ≤ w.heap.size) :
    ∃ v' w', (Builtin.append_ #[t, t] ty #[v, y]).run P w = .ok v' w' ∧ w'.ownsRow B e 1 v' (n + xs.length) (cs ++ xs) ∧ Below B w w' ∧ w.grownBy w' v.ownBlock := by
  obtain ⟨A, cap, rfl, hn, hc⟩ := hr
  cases A with
  | none =>
    obtain rfl := hn rfl
    have hx : xs = [] := by
      rcases xs with _ | ⟨x, r⟩
      · rfl
      · obtain ⟨b, o, h, _⟩ := hc (by simp)
        cases h
    subst hx
    obtain ⟨i, hi0, hz0, hz1, hz2⟩ := info_parts hi
    exact ⟨v, w, run_append_owned_none (P := P) w B t ty e i 1 ht hi0 v _ _ hown, by simpa using hown, Below.refl _ _, World.grownBy.refl _ _⟩
  | some ad =>
    obtain ⟨v', w', r1, r2, r3, r4, _⟩ := oc_append (P := P) (t := t) (ty := ty) (e := e) (s := 1) (bytes := bytes) (m := xs.length) (c := cap) (news := xs) (a := ad) ht hi hz (by decide) hby hown (by omega)
      (fun j u hj => by
        have hj' : j < xs.length := by
          rcases Nat.lt_or_ge j xs.length with h | h
          · exact h
          · rw [List.getElem?_eq_none h] at hj; cases hj
        obtain ⟨b, o, hA, hcell⟩ := hc (by omega)
        injection hA with hA
        subst hA
        rw [Addr.add_mid, hcell j hj']
        exact hj) h1 hb hB
    exact ⟨v', w', r1, r2, r3, r4⟩
/-- For an arm of a region that draws: append of such a slice to one of the call's own. -/
theorem step_append_row {ops : Array Oper} {o : Oper} {a : Act} {w : World} {K : Act → World → Prop} {Q : Exit → Act → World → Prop} {E : Prop} (hgd : o.guard = none) {s x : Operand} {t e : TypeId}
    (ho : o.op = .call { callee := .builtin .append, args := #[s, x], argTypes := #[t, t] }) {B bytes : Nat} {v y z : Value} {n : Nat} {cs xs : List Value} (hs : a.eval s = v) (hx : a.eval x = y)
    (ht : P.underlying t = some (.slice e)) (hi : (P.info? e).map (fun i => (i.zero, i.size, i.bytes)) = some (some z, 1, bytes)) (hz : z.cells.size = 1) (hby : bytes ≤ 64)
    (hown : w.ownsRow B e 1 v n cs) (hr : RdC w y xs) (h1 : ∀ u ∈ xs, u.oneCell' = true) (hb : n + xs.length ≤ 1099511627776) (hB : B ≤ w.heap.size)
    (h : ∀ v' w', w'.ownsRow B e 1 v' (n + xs.length) (cs ++ xs) → Below B w w' → w.grownBy w' v.ownBlock → K (a.put o.dst v') w') : if Region.wanted o (yielded ops a.tmps) = true then Oper.wp P o a w K Q else E := by
  obtain ⟨v', w', r1, r2, r3, r4⟩ := run_append_row (ty := o.type) ht hi hz hby hown hr h1 hb hB
  exact step_append_run hgd ho r1 hs hx (h v' w' r2 r3 r4)
end

theorem RdC.on {w w' : World} {y : Value} {xs : List Value} (h : RdC w y xs) (hb : Below w.heap.size w w') : RdC w' y xs := by
  obtain ⟨A, cap, h1, h2, h3⟩ := h
  refine ⟨A, cap, h1, h2, fun hp => ?_⟩
  obtain ⟨b, o, hA, hc⟩ := h3 hp
  refine ⟨b, o, hA, fun j hj => ?_⟩
  have h4 := hc j hj
  rw [List.getElem?_eq_getElem hj] at h4 ⊢
  rw [hb.cell (p := ⟨b, o + j, none⟩) (block_lt_of_cell h4)]
  exact h4
/-- A block of another type is left alone. -/
theorem blk_grown {w w' : World} {B g s n : Nat} {e t : TypeId} {v : Value} {cs : List Value} {zs : Array Value} (hb : Blk w g t zs) (h : w.ownsRow B e s v n cs) (ht : t ≠ e) (hg : w.grownBy w' v.ownBlock) : Blk w' g t zs := by
  refine (hg.block g hb.lt ?_).trans hb
  intro he
  rcases h.2 with ⟨rfl, _⟩ | ⟨g', cap, cur, rfl, _, hh, _⟩
  · cases he
  · have e' : g = g' := by simpa [Value.ownBlock] using he
    subst e'
    have := hb.symm.trans hh
    injection this with this
    injection this with _ h2 _
    exact ht h2
theorem Rd.rdc {w : World} {k : IntKind} {A : Option Addr} {zs : List Int} {cap : Nat} (h : Rd w w.heap.size k A zs) (hn : A = none → cap = 0) : RdC w (.slice A zs.length cap) (zs.map (Value.int k)) := by
  refine ⟨A, cap, by rw [List.length_map], hn, fun hp => ?_⟩
  rw [List.length_map] at hp
  obtain ⟨b, o, hA, _, hc⟩ := h hp
  refine ⟨b, o, hA, fun j hj => ?_⟩
  rw [List.length_map] at hj
  rw [hc j hj, List.getElem?_map, List.getElem?_eq_getElem hj]
  simp [List.getD_eq_getElem?_getD, hj]
theorem rd_owned {w : World} {B n : Nat} {e : TypeId} {k : IntKind} {v : Value} {zs : List Int} (h : w.ownsRow B e 1 v n (zs.map (Value.int k))) (hn : n = zs.length) : ∃ A cap, v = .slice A zs.length cap ∧ Rd w w.heap.size k A zs := by
  subst hn
  have ho : Own w B k e v zs := h
  obtain ⟨A, cap, h1, _, _, _, _, h2⟩ := ho.form
  exact ⟨A, cap, h1, h2⟩
end Go.Proofs.YtgbbgdjdomkohaaGreat

/- Rows of several cells: append of a slice that reads so, heads and tails of a slice of the call's own. -/
namespace Go.Proofs.YtgbbgdjdomkohaaGreat
open Go.RowKit

/-- A slice of m elements of s cells reads as these cells. -/
def RdK (w : World) (s : Nat) (y : Value) (m : Nat) (xs : List Value) : Prop := ∃ A cap, y = .slice A m cap ∧ xs.length = m * s ∧ (A = none → cap = 0 ∧ m = 0) ∧ (0 < m → ∃ b o, A = some ⟨b, o, none⟩ ∧ ∀ j, j < m * s → w.cell? ⟨b, o + j, none⟩ = xs[j]?)
section
variable {P : Program}
theorem run_append_rowK {w : World} {B : Nat} {t ty e : TypeId} {s bytes : Nat} {v y z : Value} {n m : Nat} {cs xs : List Value} (ht : P.underlying t = some (.slice e))
    (hi : (P.info? e).map (fun i => (i.zero, i.size, i.bytes)) = some (some z, s, bytes)) (hz : z.cells.size = s) (hs0 : 0 < s) (hby : bytes ≤ 64)
    (hown : w.ownsRow B e s v n cs) (hr : RdK w s y m xs) (h1 : ∀ u ∈ xs, u.oneCell' = true) (hb : n + m ≤ 1099511627776) (hB : B ≤ w.heap.size) :
    ∃ v' w', (Builtin.append_ #[t, t] ty #[v, y]).run P w = .ok v' w' ∧ w'.ownsRow B e s v' (n + m) (cs ++ xs) ∧ Below B w w' ∧ w.grownBy w' v.ownBlock ∧ (v'.ownBlock = v.ownBlock ∨ v'.ownBlock = some w.heap.size) := by
  obtain ⟨A, cap, rfl, hl, hn, hc⟩ := hr
  cases A with
  | none =>
    obtain ⟨rfl, rfl⟩ := hn rfl
    have hx : xs = [] := List.length_eq_zero_iff.1 (by omega)
    subst hx
    obtain ⟨i, hi0, hz0, hz1, hz2⟩ := info_parts hi
    exact ⟨v, w, run_append_owned_none (P := P) w B t ty e i s ht hi0 v _ _ hown, by simpa using hown, Below.refl _ _, World.grownBy.refl _ _, .inl rfl⟩
  | some ad =>
    exact oc_append (P := P) (t := t) (ty := ty) (e := e) (s := s) (bytes := bytes) (m := m) (c := cap) (news := xs) (a := ad) ht hi hz hs0 hby hown hl
      (fun j u hj => by
        have hj' : j < xs.length := (List.getElem?_eq_some_iff.1 hj).1
        have hm : 0 < m := by
          rcases Nat.eq_zero_or_pos m with h | h
          · subst h; omega
          · exact h
        obtain ⟨b, o, hA, hcell⟩ := hc hm
        injection hA with hA
        subst hA
        rw [Addr.add_mid, hcell j (by omega)]
        exact hj) h1 hb hB
/-- For an arm of a region that draws. -/
theorem step_append_rowK {ops : Array Oper} {o : Oper} {a : Act} {w : World} {K : Act → World → Prop} {Q : Exit → Act → World → Prop} {E : Prop} (hgd : o.guard = none) {s x : Operand} {t e : TypeId}
    (ho : o.op = .call { callee := .builtin .append, args := #[s, x], argTypes := #[t, t] }) {B k bytes : Nat} {v y z : Value} {n m : Nat} {cs xs : List Value} (hs : a.eval s = v) (hx : a.eval x = y)
    (ht : P.underlying t = some (.slice e)) (hi : (P.info? e).map (fun i => (i.zero, i.size, i.bytes)) = some (some z, k, bytes)) (hz : z.cells.size = k) (hk0 : 0 < k) (hby : bytes ≤ 64)
    (hown : w.ownsRow B e k v n cs) (hr : RdK w k y m xs) (h1 : ∀ u ∈ xs, u.oneCell' = true) (hb : n + m ≤ 1099511627776) (hB : B ≤ w.heap.size)
    (h : ∀ v' w', w'.ownsRow B e k v' (n + m) (cs ++ xs) → Below B w w' → w.grownBy w' v.ownBlock → K (a.put o.dst v') w') : if Region.wanted o (yielded ops a.tmps) = true then Oper.wp P o a w K Q else E := by
  obtain ⟨v', w', r1, r2, r3, r4, _⟩ := run_append_rowK (ty := o.type) ht hi hz hk0 hby hown hr h1 hb hB
  exact step_append_run hgd ho r1 hs hx (h v' w' r2 r3 r4)
end
theorem RdK.on {w w' : World} {s m : Nat} {y : Value} {xs : List Value} (h : RdK w s y m xs) (hb : Below w.heap.size w w') : RdK w' s y m xs := by
  obtain ⟨A, cap, h1, hl, h2, h3⟩ := h
  refine ⟨A, cap, h1, hl, h2, fun hp => ?_⟩
  obtain ⟨b, o, hA, hc⟩ := h3 hp
  refine ⟨b, o, hA, fun j hj => ?_⟩
  have h4 := hc j hj
  rw [List.getElem?_eq_getElem (by omega)] at h4 ⊢
  rw [hb.cell (p := ⟨b, o + j, none⟩) (block_lt_of_cell h4)]
  exact h4
theorem oc_len {w : World} {B s n : Nat} {e : TypeId} {v : Value} {cs : List Value} (h : w.ownsRow B e s v n cs) : cs.length = n * s := h.1
theorem rdk_head {w : World} {B : Nat} {e : TypeId} {A : Option Addr} {m j ck s : Nat} {cs : List Value} (h : w.ownsRow B e s (.slice A m ck) j cs) {p : Nat} (hp : p ≤ j) (h0 : j = 0 → A = none → ck = 0) : RdK w s (.slice A p ck) p (cs.take (p * s)) := by
  obtain ⟨A', cap', hv, h1, _, h2, h3⟩ := oc_form h
  injection hv with e1 e2 e3
  subst e1 e3
  have hl := oc_len h
  have hps : p * s ≤ j * s := Nat.mul_le_mul_right s hp
  have hlp : (cs.take (p * s)).length = p * s := by rw [List.length_take]; omega
  refine ⟨A, ck, rfl, hlp, fun hn => ⟨h2 hn, ?_⟩, fun hp0 => ?_⟩
  · rcases Nat.eq_zero_or_pos j with hj | hj
    · omega
    · obtain ⟨g, cap2, hv2, _⟩ := oc_head h hj
      injection hv2 with e1 _ _
      rw [hn] at e1
      cases e1
  obtain ⟨g, cap2, hv2, _⟩ := oc_head h (by omega)
  injection hv2 with e1 e2 e3
  subst e1 e3
  refine ⟨g, 0, rfl, fun i hi => ?_⟩
  subst e2
  rw [Nat.zero_add, (oc_cell h (by omega)).1, List.getElem?_take_of_lt hi]
theorem rdk_tail {w : World} {B : Nat} {e : TypeId} {A : Option Addr} {m j ck s : Nat} {cs : List Value} (h : w.ownsRow B e s (.slice A m ck) j cs) {p : Nat} (hp : p ≤ j) : RdK w s (.slice (if ck = p then A else A.map (·.add (p * s))) (j - p) (ck - p)) (j - p) (cs.drop (p * s)) := by
  obtain ⟨A', cap', hv, h1, _, h2, h3⟩ := oc_form h
  injection hv with e1 e2 e3
  subst e1 e3
  have hl := oc_len h
  have hps : p * s ≤ j * s := Nat.mul_le_mul_right s hp
  have hlp : (cs.drop (p * s)).length = (j - p) * s := by rw [List.length_drop, hl, Nat.sub_mul]
  refine ⟨_, _, rfl, hlp, fun hn => ?_, fun hp0 => ?_⟩
  · by_cases hc : ck = p
    · omega
    · rw [if_neg hc] at hn
      have hA : A = none := by simpa using hn
      have := h2 hA
      rcases Nat.eq_zero_or_pos j with hj | hj
      · omega
      · obtain ⟨g, cap2, hv2, _⟩ := oc_head h hj
        injection hv2 with e1 _ _
        rw [hA] at e1
        cases e1
  have hlt : ∀ i, i < (j - p) * s → p * s + i < j * s := fun i hi => by rw [Nat.sub_mul] at hi; omega
  rw [if_neg (by omega)]
  obtain ⟨g, cap2, hv2, _⟩ := oc_head h (by omega)
  injection hv2 with e1 e2 e3
  subst e1 e3
  subst e2
  refine ⟨g, p * s, ?_, fun i hi => ?_⟩
  · show some (Addr.add ⟨g, 0, none⟩ (p * s)) = _
    rw [Addr.add_mid, Nat.zero_add]
  rw [(oc_cell h (hlt i hi)).1, List.getElem?_drop]
theorem rdk_blk {w : World} {g s : Nat} {t : TypeId} {us : Array Value} {c : Nat} (h : Blk w g t us) (hs : us.size = s) : RdK w s (.slice (some ⟨g, 0, none⟩) 1 c) 1 us.toList := ⟨_, _, rfl, by simp [hs], (fun h => by cases h), fun _ => ⟨g, 0, rfl, fun j _ => by
  rw [h.cell, Nat.zero_add]
  simp⟩⟩
end Go.Proofs.YtgbbgdjdomkohaaGreat

/- Where the library's bodies lie in this program. -/
namespace Go.Proofs.YtgbbgdjdomkohaaGreat
open Go.Shelf
def Tryz.insKeyed_ren : Go.Shelf.Ren := ⟨fun | 20 => 29 | n => n, fun | 24 => 49 | 22 => 45 | 3 => 3 | 25 => 52 | 4 => 4 | 0 => 0 | n => n, fun | n => n⟩
theorem Tryz.insKeyed : Go.Proofs.SlLaysF0.n20 Tryz.prog Tryz.insKeyed_ren := {
  mixed := by kernel_rfl
  f20 := ⟨Tryz.f29.name, by decide, Tryz.func29.trans (congrArg some (by kernel_rfl))⟩
  t0 := Tryz.underlying0
  a0 := Tryz.isAgg0
  z0 := Tryz.sizeOf0
  v0 := Tryz.zeroValue0
  t3 := Tryz.underlying3
  a3 := Tryz.isAgg3
  z3 := Tryz.sizeOf3
  v3 := Tryz.zeroValue3
  t4 := Tryz.underlying4
  a4 := Tryz.isAgg4
  z4 := Tryz.sizeOf4
  v4 := Tryz.zeroValue4
  t22 := Tryz.underlying45
  a22 := Tryz.isAgg45
  z22 := Tryz.sizeOf45
  v22 := Tryz.zeroValue45
  t25 := Tryz.underlying52
  a25 := Tryz.isAgg52
  z25 := Tryz.sizeOf52
  v25 := Tryz.zeroValue52 }
end Go.Proofs.YtgbbgdjdomkohaaGreat
