/- One round of a copy. -/
import Derived.Test.YtmihoeholcaokaaKAT
namespace Go.Proofs.Ytmihoeholcaokaa
open Go.RowKit

/-- A new list on the stack. -/
def SE : Nat × List It → List Value → Prop := fun r c => ∃ A cap, c = [.slice A r.2.length cap] ∧ r.2.length ≤ cap ∧ (r.2 = [] ∨ A = some ⟨r.1, 0, none⟩)
theorem SE.len : ∀ x c, SE x c → c.length = 1 := fun _ _ ⟨_, _, e, _, _⟩ => by rw [e]; rfl
theorem infoList : (Try.prog.info? 37).map (fun i => (i.zero, i.size, i.bytes)) = some (some (.slice none 0 0), 1, 24) := by kernel_rfl
theorem sizeList : (Try.prog.info? 37).map (·.size) = some 1 := by kernel_rfl
/-- A copy's state. -/
structure CS (w wr : World) (n B : Nat) (M : Nat → Option (List It)) (v : Value) (T : List (Nat × List It)) (P : Nat → Nat → Prop) (root : List It) (A : Option Addr) : Prop where
  own : OwnG SE wr B 37 1 v T
  inv : Inv wr n B M P
  nod : (T.map (·.1)).Nodup
  tc : ∀ r ∈ T, (r.2 = [] ∧ r.1 < B) ∨ M r.1 = some r.2
  root : root = [] ∨ ∃ g, A = some ⟨g, 0, none⟩ ∧ M g = some root
  bel : Below B w wr
section
variable {w wr w5 w' : World} {n B g j : Nat} {M : Nat → Option (List It)} {v u : Value} {T : List (Nat × List It)} {P Q : Nat → Nat → Prop} {root l : List It} {A : Option Addr} {X : It}
theorem blk_ne {e e' : TypeId} {s m : Nat} {c : Array Value} {cs : List Value} (h : w.ownsRow B e s v m cs) (hb : Blk w g e' c) (he : e ≠ e') : v.ownBlock = none ∨ v.ownBlock ≠ some g := by
  rcases h.2 with ⟨rfl, _⟩ | ⟨g', cap, cur, rfl, _, hh, _⟩
  · left; rfl
  · right
    intro e1
    have e2 : g' = g := by simpa [Value.ownBlock] using e1
    subst e2
    have hb' : w.heap[g']? = _ := hb
    rw [hh] at hb'
    injection hb' with hb'
    injection hb' with _ hb' _
    exact he hb'
theorem grown_set (w : World) (g o : Nat) (u : Value) : w.grownBy (w.setCell ⟨g, o, none⟩ u) (some g) := (Only.refl g w).put o u
theorem CS.congr (h : CS w wr n B M v T P root A) (hq : ∀ g l i, M g = some l → i < l.length → (P g i ↔ Q g i)) : CS w wr n B M v T Q root A := ⟨h.own, h.inv.congr hq, h.nod, h.tc, h.root, h.bel⟩
theorem CS.round (h : CS w wr n B M v T (fun b i => b ∈ T.map (·.1) ∨ (b = g ∧ j ≤ i)) root A) (hg : M g = some l) (hX : l[j]? = some X) (hT : g ∉ T.map (·.1)) (ho : OwnI w5 n wr.heap.size u X.l) (hb : Below wr.heap.size wr w5) (hn : n ≤ B) (hB : B ≤ wr.heap.size)
    (hroom : T.length + 1 ≤ 1099511627776) :
    ∃ A' cap' M' w6, u = .slice A' X.l.length cap' ∧ w5.setCell ⟨g, j * 4 + 3, none⟩ u = w6 ∧ w6.cell? ⟨g, j * 4 + 3, none⟩ = some u ∧ M' g = some l ∧
      (X.l = [] → CS w w6 n B M' v T (fun b i => b ∈ T.map (·.1) ∨ (b = g ∧ j + 1 ≤ i)) root A) ∧
      (X.l ≠ [] → ∃ w7 v' w8 g', w6.alloc (.cells #[u] 37) = w7 ∧ (Builtin.append_ #[89, 89] 89 #[v, .slice (some ⟨w6.heap.size, 0, none⟩) 1 1]).run Try.prog w7 = .ok v' w8 ∧
        CS w w8 n B M' v' (T ++ [(g', X.l)]) (fun b i => b ∈ (T ++ [(g', X.l)]).map (·.1) ∨ (b = g ∧ j + 1 ≤ i)) root A ∧ g ∉ (T ++ [(g', X.l)]).map (·.1)) := by
  obtain ⟨M', m1, m2, i6, b6, A', cap', ev, hv1, hv2⟩ := h.inv.step hg hX hn hB ho hb
  have hbg : ∃ cs, Blk wr g 39 cs ∧ l.length * 4 ≤ cs.size := (h.inv g l hg).2.1
  obtain ⟨cs, hk, hks⟩ := hbg
  have hgw : g < wr.heap.size := hk.lt
  have hk5 := hk.on hb
  have hjl := (take_at hX).2
  have hcell : (w5.setCell ⟨g, j * 4 + 3, none⟩ u).cell? ⟨g, j * 4 + 3, none⟩ = some u := by
    rw [(hk5.put (j * 4 + 3) u).cell, Array.getElem?_setIfInBounds_self_of_lt]
    omega
  have hTw : ∀ r ∈ T, r.1 < wr.heap.size := fun r hr => by
    rcases h.tc r hr with ⟨_, h1⟩ | h1
    · omega
    · obtain ⟨_, ⟨_, h2, _⟩, _⟩ := h.inv _ _ h1
      exact h2.lt
  have hmem : ∀ b, b ∈ T.map (·.1) → b < wr.heap.size := fun b hb' => by
    obtain ⟨r, hr, rfl⟩ := List.mem_map.1 hb'
    exact hTw r hr
  have own5 : OwnG SE w5 B 37 1 v T := h.own.on hb
  have own6 : OwnG SE (w5.setCell ⟨g, j * 4 + 3, none⟩ u) B 37 1 v T := own5.kept (grown_set w5 g _ u) (by
    obtain ⟨c, o, _⟩ := own5
    exact blk_ne o hk5 (by decide))
  have htc : ∀ r ∈ T, (r.2 = [] ∧ r.1 < B) ∨ M' r.1 = some r.2 := fun r hr => (h.tc r hr).imp id (m1 _ _)
  have hroot : root = [] ∨ ∃ g, A = some ⟨g, 0, none⟩ ∧ M' g = some root := h.root.imp id fun ⟨g, e, m⟩ => ⟨g, e, m1 _ _ m⟩
  have hbel : Below B w (w5.setCell ⟨g, j * 4 + 3, none⟩ u) := h.bel.trans b6
  refine ⟨A', cap', M', _, ev, rfl, hcell, m1 _ _ hg, fun hx => ?_, fun hx => ?_⟩
  · refine ⟨own6, i6.congr fun b l' i hb' hi => ?_, h.nod, htc, hroot, hbel⟩
    rcases m2 b l' hb' with q | q
    · obtain ⟨_, ⟨_, q2, _⟩, _⟩ := h.inv _ _ q
      have hbl : ¬ wr.heap.size ≤ b := by have := q2.lt; omega
      constructor
      · rintro ⟨p, hne⟩
        rcases p.resolve_left hbl with p | ⟨rfl, p⟩
        · exact .inl p
        · exact .inr ⟨rfl, by have : i ≠ j := fun e => hne ⟨rfl, e⟩; omega⟩
      · rintro (p | ⟨rfl, p⟩)
        · exact ⟨.inr (.inl p), fun e => hT (e.1 ▸ p)⟩
        · exact ⟨.inr (.inr ⟨rfl, by omega⟩), fun e => by have := e.2; omega⟩
    · exfalso
      rcases hv2 with ⟨_, hv2⟩ | ⟨hv2, _⟩
      · obtain ⟨_, ⟨_, q2, _⟩, _⟩ := h.inv _ _ (hv2 _ _ hb')
        have := q2.lt
        omega
      · exact hv2 hx
  · obtain ⟨_, g', e1, e2, e3, e4, e5⟩ := hv2.resolve_left fun q => hx q.1
    have hsz : wr.heap.size ≤ w5.heap.size := hb.size
    have hg6 : (w5.setCell ⟨g, j * 4 + 3, none⟩ u).heap.size = w5.heap.size := by simp [World.setCell]
    obtain ⟨w6, hw6⟩ : ∃ w6, w5.setCell ⟨g, j * 4 + 3, none⟩ u = w6 := ⟨_, rfl⟩
    rw [hw6] at own6 i6 hbel hg6 ⊢
    have S7 := below_alloc w6 (.cells #[u] 37)
    have b7 := Blk.fresh w6 37 #[u]
    have hs7 := S7.size
    generalize hw7 : w6.alloc (.cells #[u] 37) = w7 at *
    have own7 := own6.on S7
    have i7 := i6.on S7 (by omega)
    obtain ⟨v', w8, hr, ho8, hb8, hg8, _⟩ := own7.push (P := Try.prog) (t := 89) (ty := 89) (bytes := 24) (x := (g', X.l)) (c := [u]) (a := ⟨w6.heap.size, 0, none⟩) (k := 1) (by kernel_rfl) infoList rfl (by decide) (by decide)
      ⟨A', cap', by rw [ev], hv1, .inr e1⟩ rfl
      (fun j u hj => by
        rw [Addr.add_mid, Nat.zero_add, b7.cell]
        simpa using hj)
      (fun y hy => by
        simp only [List.mem_cons, List.not_mem_nil, or_false] at hy
        rw [hy, ev]; rfl) hroom (by omega)
    obtain ⟨c7, o7, l7⟩ := own7
    have i8 := i7.grown (by decide) o7 hg8 (hb8.mono hn)
    refine ⟨w7, v', w8, g', rfl, hr, ⟨ho8, i8.congr fun b l' i hb' hi => ?_, ?_, ?_, hroot, hbel.trans ((S7.mono (by omega)).trans hb8)⟩, ?_⟩
    · simp only [List.map_append, List.map_cons, List.map_nil, List.mem_append, List.mem_singleton]
      rcases m2 b l' hb' with q | q
      · obtain ⟨_, ⟨_, q2, _⟩, _⟩ := h.inv _ _ q
        have hbl : ¬ wr.heap.size ≤ b := by have := q2.lt; omega
        constructor
        · rintro ⟨p, hne⟩
          rcases p.resolve_left hbl with p | ⟨rfl, p⟩
          · exact .inl (.inl p)
          · exact .inr ⟨rfl, by have : i ≠ j := fun e => hne ⟨rfl, e⟩; omega⟩
        · rintro ((p | rfl) | ⟨rfl, p⟩)
          · exact ⟨.inr (.inl p), fun e => hT (e.1 ▸ p)⟩
          · exact absurd e3 hbl
          · exact ⟨.inr (.inr ⟨rfl, by omega⟩), fun e => by have := e.2; omega⟩
      · have hbg' := e5 b l' hb' q
        constructor
        · rintro _
          exact .inl (.inr hbg')
        · rintro _
          exact ⟨.inl q, fun e => by have := e.1; omega⟩
    · rw [List.map_append, List.nodup_append]
      refine ⟨h.nod, by simp, fun a ha b hb' => ?_⟩
      simp only [List.map_cons, List.map_nil, List.mem_singleton] at hb'
      have := hmem a ha
      omega
    · intro r hr
      rcases List.mem_append.1 hr with hr | hr
      · exact htc r hr
      · rw [List.mem_singleton] at hr
        subst hr
        exact .inr e2
    · simp only [List.map_append, List.map_cons, List.map_nil, List.mem_append, List.mem_singleton]
      rintro (p | p)
      · exact hT p
      · omega
/-- What Copy has made. -/
def Cpd (w : World) (n B : Nat) (l : List It) (A : Option Addr) (cap : Nat) : Prop :=
  l.length ≤ cap ∧ (A = none → cap = 0) ∧ ∃ M, Inv w n B M (fun _ _ => False) ∧ (l = [] ∨ ∃ g, A = some ⟨g, 0, none⟩ ∧ M g = some l)
theorem Inv.at (h : Inv w n B M fun _ _ => False) : ∀ (c : Nat) (l : List It) (g : Nat), countL l ≤ c → M g = some l → AtL w (B ≤ ·) l (some ⟨g, 0, none⟩) := by
  intro c
  induction c with
  | zero =>
    intro l g hc hg
    cases l with
    | nil => exact AtL.nil _
    | cons t r => rw [countL, It.count_eq] at hc; omega
  | succ c ih =>
    intro l g hc hg
    obtain ⟨h1, ⟨cs, h2, _⟩, h3⟩ := h g l hg
    suffices H : ∀ k i, i + k = l.length → AtL w (B ≤ ·) (l.drop i) (some ⟨g, i * 4, none⟩) by simpa using H l.length 0 (by omega)
    intro k
    induction k with
    | zero => intro i hi; rw [List.drop_of_length_le (by omega)]; exact AtL.nil _
    | succ k ih2 =>
      intro i hi
      have hil : i < l.length := by omega
      rw [List.drop_eq_getElem_cons hil]
      obtain ⟨A, cap, c0, c1, c2, c3, e1, e2, _, e4⟩ := h3 i l[i] (List.getElem?_eq_getElem hil)
      have hlt : countL l[i].l ≤ c := by
        have h5 := count_le_of_mem (List.getElem_mem hil)
        rw [It.count_eq] at h5
        omega
      refine AtL.mk h1 h2.lt (At1.mk A cap c0 c1 c2 c3 e1 e2 ?_) (by have := ih2 (i + 1) (by omega); rwa [show (i + 1) * 4 = i * 4 + 4 by omega] at this)
      rcases e4 (fun h => h) with e | ⟨g', rfl, e⟩
      · rw [e]; exact AtL.nil _
      · exact ih _ _ hlt e
theorem Cpd.at {cap : Nat} (h : Cpd w n B l A cap) : AtL w (B ≤ ·) l A := by
  obtain ⟨_, _, M, h3, h4⟩ := h
  rcases h4 with rfl | ⟨g, rfl, h4⟩
  · exact AtL.nil _
  · exact h3.at _ _ _ (Nat.le_refl _) h4
end
end Go.Proofs.Ytmihoeholcaokaa

/- Package item: Copy. -/
namespace Go.Proofs.Ytmihoeholcaokaa
open Go.RowKit

theorem kids_take {l : List It} {j : Nat} {X : It} (h : l[j]? = some X) : kids (l.take (j + 1)) = kids (l.take j) ++ (if X.l.isEmpty then [] else [X.l]) := by
  rw [(take_at h).1, kids_append, kids_one]
theorem kids_length (l : List It) : (kids l).length ≤ l.length := by
  unfold kids
  rw [List.length_map]
  exact List.length_filter_le _ _
theorem stSize_len (ps : List (List It)) : ps.length ≤ stSize ps := by
  induction ps with
  | nil => simp [stSize]
  | cons p r ih => simp only [List.length_cons, stSize]; omega
theorem copy_room (T U : List (Nat × List It)) (g : Nat) (l : List It) (j : Nat) (hU : U.map (·.2) = kids (l.take j)) : (T ++ U).length + 1 ≤ stSize ((T ++ [(g, l)]).map (·.2)).reverse := by
  have h1 := stSize_len (T.map (·.2))
  have h2 := congrArg List.length hU
  have h3 := kids_length (l.take j)
  have h4 := length_le_countL l
  rw [List.length_take] at h3
  rw [List.length_map] at h1 h2
  rw [stSize_reverse, List.map_append, stSize_append, List.length_append]
  simp only [List.map_cons, List.map_nil, stSize]
  omega

/-- A copy begins. -/
theorem copy_start {w w1 w2 : World} {n b1 : Nat} {v : Value} {l : List It} {k0 n0 s0 a0 : Value} {c2 : Array Value} (hs1 : w1.heap.size = b1 + 2) (hS : Below b1 w w1) (hn : n ≤ b1) (hk1 : Blk w1 b1 39 #[k0, n0, s0, a0]) (hk2 : Blk w1 (b1 + 1) 39 c2)
    (ho : OwnI w2 n w1.heap.size v l) (hb : Below w1.heap.size w1 w2) :
    ∃ A cap M T w3 w4, v = .slice A l.length cap ∧ l.length ≤ cap ∧ (A = none → cap = 0) ∧ w2.cell? ⟨b1, 3, none⟩ = some a0 ∧ w2.frozen? ⟨b1, 3, none⟩ = false ∧ w2.setCell ⟨b1, 3, none⟩ v = w3 ∧ Blk w3 b1 39 #[k0, n0, s0, v] ∧ w3.alloc (.cells #[v] 37) = w4 ∧
      Blk w4 b1 39 #[k0, n0, s0, v] ∧ Blk w4 (b1 + 1) 39 c2 ∧ CS w4 w4 n (b1 + 2) M (.slice (some ⟨w3.heap.size, 0, none⟩) 1 1) T (fun b _ => b ∈ T.map (·.1)) l A ∧ T.map (·.2) = [l] ∧ Below b1 w w4 ∧ b1 + 2 ≤ w4.heap.size := by
  rw [hs1] at ho hb
  have hsz2 := hb.size
  have k2 : Blk w2 b1 39 #[k0, n0, s0, a0] := hk1.below hb (by omega)
  have k2' : Blk w2 (b1 + 1) 39 c2 := hk2.below hb (by omega)
  have k3 := k2.put 3 v
  have k3' := k2'.far (p := ⟨b1, 3, none⟩) (by show b1 + 1 ≠ b1; omega) v
  have o3 : OwnI (w2.setCell ⟨b1, 3, none⟩ v) n (b1 + 2) v l := by
    obtain ⟨cs, o, y⟩ := ho
    refine ⟨cs, oc_keep o fun i hi _ => ?_, y.keep ((Below.refl n w2).setCell (p := ⟨b1, 3, none⟩) hn v)⟩
    exact Below.heap_setCell w2 ⟨b1, 3, none⟩ v i (by show i ≠ b1; omega)
  have hform : ∃ A cap, v = .slice A l.length cap ∧ l.length ≤ cap ∧ (A = none → cap = 0) := by
    obtain ⟨cs0, o, _⟩ := ho
    obtain ⟨A, cap, e1, e2, _, e4, _⟩ := oc_form o
    exact ⟨A, cap, e1, e2, e4⟩
  obtain ⟨A, cap, ev, hv1, hv2⟩ := hform
  have hb3 : Below b1 w (w2.setCell ⟨b1, 3, none⟩ v) := hS.trans ((hb.mono (by omega)).trans ((Below.refl b1 w2).setCell (p := ⟨b1, 3, none⟩) (Nat.le_refl _) v))
  have hsz3 : (w2.setCell ⟨b1, 3, none⟩ v).heap.size = w2.heap.size := by simp [World.setCell]
  generalize hw3 : w2.setCell ⟨b1, 3, none⟩ v = w3 at *
  have S4 := below_alloc w3 (.cells #[v] 37)
  have hb4 := hb3.trans (S4.mono (by omega))
  have hs4 := S4.size
  have k4 := k3.on S4
  have k4' := k3'.on S4
  have se : ∀ g, (l = [] ∨ A = some ⟨g, 0, none⟩) → OwnG SE (w3.alloc (.cells #[v] 37)) (b1 + 2) 37 1 (.slice (some ⟨w3.heap.size, 0, none⟩) 1 1) [(g, l)] := fun g hg =>
    OwnG.fresh w3 (b1 + 2) 37 1 #[v] ⟨A, cap, by rw [ev], hv1, hg⟩ rfl (by omega)
  by_cases hl : l = []
  · refine ⟨A, cap, fun _ => none, [(b1, l)], w3, _, ev, hv1, hv2, by rw [k2.cell]; rfl, k2.free 3, rfl, k3, rfl, k4, k4', ⟨se b1 (.inl hl), Inv.start0 _ _ _ _, by simp, fun r hr => ?_, .inl hl, Below.refl _ _⟩, rfl, hb4, by omega⟩
    rw [List.mem_singleton] at hr
    subst hr
    exact .inl ⟨hl, by show b1 < b1 + 2; omega⟩
  · obtain ⟨g, cap', ev', _, hgB, hI⟩ := Inv.one o3 hl
    have hA : A = some ⟨g, 0, none⟩ := by
      rw [ev] at ev'
      injection ev'
    refine ⟨A, cap, _, [(g, l)], w3, _, ev, hv1, hv2, by rw [k2.cell]; rfl, k2.free 3, rfl, k3, rfl, k4, k4', ⟨se g (.inr hA), (hI.on S4 (by omega)).congr fun b l' i _ _ => ?_, by simp, fun r hr => ?_, .inr ⟨g, hA, by simp⟩, Below.refl _ _⟩, rfl, hb4, by omega⟩
    · simp
    · rw [List.mem_singleton] at hr
      subst hr
      exact .inr (by simp)

theorem Inv.less {w : World} {n B B' : Nat} {M : Nat → Option (List It)} {P : Nat → Nat → Prop} (h : Inv w n B M P) (hB : B' ≤ B) : Inv w n B' M P := fun g l hg => ⟨Nat.le_trans hB (h g l hg).1, (h g l hg).2⟩
/-- The topmost list is taken. -/
theorem CS.pop {w wr : World} {n B g : Nat} {M : Nat → Option (List It)} {v0 v : Value} {T : List (Nat × List It)} {root l : List It} {A : Option Addr} (h : CS w wr n B M v0 (T ++ [(g, l)]) (fun b _ => b ∈ (T ++ [(g, l)]).map (·.1)) root A) (ho : OwnG SE wr B 37 1 v T) :
    CS w wr n B M v (T ++ []) (fun b i => b ∈ (T ++ ([] : List (Nat × List It))).map (fun r => r.1) ∨ (b = g ∧ 0 ≤ i)) root A ∧ g ∉ (T ++ ([] : List (Nat × List It))).map (fun r => r.1) ∧ ((l = [] ∧ g < B) ∨ M g = some l) := by
  have hnd := h.nod
  rw [List.map_append, List.nodup_append] at hnd
  rw [List.append_nil]
  refine ⟨⟨ho, h.inv.congr fun b l' i _ _ => ?_, hnd.1, fun r hr => h.tc r (by simp [hr]), h.root, h.bel⟩, fun hg => hnd.2.2 g hg g (by simp) rfl, h.tc (g, l) (by simp)⟩
  simp
/-- All items of a list have new lists. -/
theorem CS.done {w wr : World} {n B g j : Nat} {M : Nat → Option (List It)} {v : Value} {T : List (Nat × List It)} {root l : List It} {A : Option Addr} (h : CS w wr n B M v T (fun b i => b ∈ T.map (·.1) ∨ (b = g ∧ j ≤ i)) root A) (hg : (l = [] ∧ g < B) ∨ M g = some l) (hj : l.length = j) :
    CS w wr n B M v T (fun b _ => b ∈ T.map (·.1)) root A := h.congr fun b l' i hb hi => by
  constructor
  · rintro (p | ⟨rfl, p⟩)
    · exact p
    · exfalso
      rcases hg with ⟨_, hg⟩ | hg
      · have := (h.inv _ _ hb).1; omega
      · rw [hg] at hb
        injection hb with hb
        subst hb
        omega
  · exact .inl
theorem CS.item {w wr : World} {n B g j : Nat} {M : Nat → Option (List It)} {v : Value} {T : List (Nat × List It)} {root l : List It} {A : Option Addr} {X : It} (h : CS w wr n B M v T (fun b i => b ∈ T.map (·.1) ∨ (b = g ∧ j ≤ i)) root A) (hg : M g = some l) (hX : l[j]? = some X) :
    ∃ A0 cap0, wr.cell? ⟨g, j * 4 + 3, none⟩ = some (.slice A0 X.l.length cap0) ∧ wr.frozen? ⟨g, j * 4 + 3, none⟩ = false ∧ g < wr.heap.size ∧ RL wr n X.l A0 cap0 := by
  obtain ⟨_, ⟨cs, h2, _⟩, h3⟩ := h.inv g l hg
  obtain ⟨A0, cap0, _, _, _, c3, _, _, e3, _⟩ := h3 j X hX
  exact ⟨A0, cap0, c3, h2.free _, h2.lt, e3 (.inr ⟨rfl, Nat.le_refl _⟩)⟩

end Go.Proofs.Ytmihoeholcaokaa
