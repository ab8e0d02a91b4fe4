/- Package denote: spread: all items of an item in one list, each one's items side by side. -/
import Derived.Test.YtjelgoeamaejmaaGreatKBB
import Derived.Test.YtjelgoeamaejmaaGreatKAX
namespace Go.Proofs.YtjelgoeamaejmaaGreat
open Go.RowKit

/-- A part: an item, where its items lie in memory, and where they begin in the list. -/
structure Pt where
  x : It
  A : Option Addr
  cap : Nat
  it : Int
def pc (p : Pt) : List Value := [.int .i64 p.x.k, .int .u64 p.x.n, .string p.x.s, .slice p.A p.x.l.length p.cap, .int .i64 p.it]
theorem pc_len (p : Pt) : (pc p).length = 5 := rfl
theorem pc_one (p : Pt) : ∀ u ∈ pc p, u.oneCell' = true := by
  intro u hu
  simp only [pc, List.mem_cons, List.not_mem_nil, or_false] at hu
  rcases hu with rfl | rfl | rfl | rfl | rfl <;> rfl
def OwnP (w : World) (B : Nat) (v : Value) (ps : List Pt) : Prop := w.ownsRow B 77 5 v ps.length (ps.flatMap pc)
theorem infoPart : (Tryz.prog.info? 77).map (fun i => (i.zero, i.size, i.bytes)) = some (some (.agg #[.int .i64 0, .int .u64 0, .string ⟨#[]⟩, .slice none 0 0, .int .i64 0]), 5, 64) := by kernel_rfl
theorem push_part {w : World} {B : Nat} {v : Value} {ps : List Pt} (h : OwnP w B v ps) (p : Pt) (hb : ps.length + 1 ≤ 1099511627776) (hB : B ≤ w.heap.size) :
    ∃ v' w', (Builtin.append_ #[61, 61] 61 #[v, .slice (some ⟨w.heap.size, 0, none⟩) 1 1]).run Tryz.prog (w.alloc (.cells #[.int .i64 p.x.k, .int .u64 p.x.n, .string p.x.s, .slice p.A p.x.l.length p.cap, .int .i64 p.it] 77)) = .ok v' w' ∧ OwnP w' B v' (ps ++ [p]) ∧ Below B w w' := by
  obtain ⟨v', w', r1, r2, r3, _⟩ := push_row (P := Tryz.prog) (t := 61) (ty := 61) (arr := #[.int .i64 p.x.k, .int .u64 p.x.n, .string p.x.s, .slice p.A p.x.l.length p.cap, .int .i64 p.it]) Tryz.underlying61 infoPart rfl (by decide) (by decide) h rfl (fun u hu => pc_one p u hu) hb hB
  refine ⟨v', w', r1, ?_, r3⟩
  unfold OwnP
  rw [List.length_append, List.flatMap_append]
  simpa [pc] using r2
/-- Where a part lies. -/
theorem OwnP.at_ {w : World} {B g m cap : Nat} {ps : List Pt} (h : OwnP w B (.slice (some ⟨g, 0, none⟩) m cap) ps) {k : Nat} {p : Pt} (hk : ps[k]? = some p) :
    w.cell? ⟨g, k * 5, none⟩ = some (.int .i64 p.x.k) ∧ w.cell? ⟨g, k * 5 + 1, none⟩ = some (.int .u64 p.x.n) ∧ w.cell? ⟨g, k * 5 + 2, none⟩ = some (.string p.x.s) ∧ w.cell? ⟨g, k * 5 + 3, none⟩ = some (.slice p.A p.x.l.length p.cap) ∧ w.cell? ⟨g, k * 5 + 4, none⟩ = some (.int .i64 p.it) ∧ w.frozen? ⟨g, k * 5 + 4, none⟩ = false := by
  have hl := (List.getElem?_eq_some_iff.1 hk).1
  have one : ∀ j, j < 5 → w.cell? ⟨g, k * 5 + j, none⟩ = (pc p)[j]? := fun j hj => by
    rw [(oc_cell h (j := k * 5 + j) (by omega)).1, flat_at (s := 5) pc_len ps k p j hk hj]
  exact ⟨one 0 (by decide), one 1 (by decide), one 2 (by decide), one 3 (by decide), one 4 (by decide), (oc_cell h (j := k * 5 + 4) (by omega)).2⟩
theorem OwnP.set {w : World} {B g m cap : Nat} {ps : List Pt} (h : OwnP w B (.slice (some ⟨g, 0, none⟩) m cap) ps) {k : Nat} {p : Pt} (hk : ps[k]? = some p) (z : Int) :
    OwnP (w.setCell ⟨g, k * 5 + 4, none⟩ (.int .i64 z)) B (.slice (some ⟨g, 0, none⟩) m cap) (ps.set k { p with it := z }) := by
  have := oc_put h (k * 5 + 4) (.int .i64 z)
  unfold OwnP
  rw [List.length_set, flat_put (s := 5) pc_len ps k 4 p { p with it := z } (.int .i64 z) hk (by decide) rfl]
  exact this
theorem OwnP.on {w w' : World} {B : Nat} {v : Value} {ps : List Pt} (h : OwnP w B v ps) (hb : Below w.heap.size w w') : OwnP w' B v ps := oc_on h hb
theorem OwnP.less {w : World} {B B' : Nat} {v : Value} {ps : List Pt} (h : OwnP w B v ps) (hB : B' ≤ B) : OwnP w B' v ps := oc_less h hB

theorem item_zero4 : ∀ w, (zeroValue 28).run Tryz.prog w = .ok (.agg #[.int .i64 0, .int .u64 0, .string ⟨#[]⟩, .slice none 0 0]) w := (zero_of_info (n := 4) (by kernel_rfl)).1
theorem item_info4 : (Tryz.prog.info? 28).map (·.size) = some 4 := by kernel_rfl
/-! ### What is spread -/
def cntP (ps : List Pt) : Nat := countL (ps.map (·.x))
/-- Where an item's items stand, the first j of them. -/
def KidsAt (ps : List Pt) (p : Pt) (j : Nat) : Prop := ∃ c : Nat, p.it = c ∧ ∀ i y, i < j → p.x.l[i]? = some y → ∃ q, ps[c + i]? = some q ∧ q.x = y
/-- The first k parts are spread. -/
structure Sp (x : It) (k : Nat) (ps : List Pt) : Prop where
  first : (ps.map (·.x))[0]? = some x
  done : ∀ i p, i < k → ps[i]? = some p → KidsAt ps p p.x.l.length
  cnt : k + cntP (ps.drop k) = x.count
  le : k ≤ ps.length
  her : ∀ (Q : It → Prop), Q x → (∀ y, Q y → ∀ z ∈ y.l, Q z) → ∀ p ∈ ps, Q p.x
/-- The part k is being spread: j of its items stand. -/
structure Sq (x : It) (k j : Nat) (p : Pt) (ps : List Pt) : Prop where
  first : (ps.map (·.x))[0]? = some x
  done : ∀ i q, i < k → ps[i]? = some q → KidsAt ps q q.x.l.length
  cur : ps[k]? = some p
  pos : p.it + j = ps.length
  kids : KidsAt ps p j
  cnt : k + 1 + cntP (ps.drop (k + 1)) + countL (p.x.l.drop j) = x.count
  her : ∀ (Q : It → Prop), Q x → (∀ y, Q y → ∀ z ∈ y.l, Q z) → ∀ q ∈ ps, Q q.x
theorem Sp.start (x : It) (A : Option Addr) (cap : Nat) (z : Int) : Sp x 0 [⟨x, A, cap, z⟩] :=
  ⟨rfl, fun i p h => absurd h (by omega), by simp [cntP, countL], Nat.zero_le _, fun Q h0 _ p hp => by simp only [List.mem_singleton] at hp; subst hp; exact h0⟩
theorem KidsAt.put {ps : List Pt} {p : Pt} {j : Nat} (h : KidsAt ps p j) (k : Nat) (q : Pt) (hq : (ps.map (·.x))[k]? = some q.x) : KidsAt (ps.set k q) p j := by
  obtain ⟨c, e, h⟩ := h
  refine ⟨c, e, fun i y hi hy => ?_⟩
  obtain ⟨r, hr, hx⟩ := h i y hi hy
  by_cases hk : k = c + i
  · subst hk
    have hl := (List.getElem?_eq_some_iff.1 hr).1
    refine ⟨q, List.getElem?_set_self hl, ?_⟩
    rw [List.getElem?_map, hr] at hq
    injection hq with hq
    exact (Eq.symm hq).trans hx
  · exact ⟨r, by rw [List.getElem?_set_ne hk, hr], hx⟩
theorem KidsAt.more {ps : List Pt} {p : Pt} {j : Nat} (h : KidsAt ps p j) (q : Pt) : KidsAt (ps ++ [q]) p j := by
  obtain ⟨c, e, h⟩ := h
  refine ⟨c, e, fun i y hi hy => ?_⟩
  obtain ⟨r, hr, hx⟩ := h i y hi hy
  exact ⟨r, by rw [List.getElem?_append_left (List.getElem?_eq_some_iff.1 hr).1, hr], hx⟩
theorem map_set_same {ps : List Pt} {k : Nat} {p : Pt} (hk : ps[k]? = some p) (z : Int) : (ps.set k { p with it := z }).map (·.x) = ps.map (·.x) := by
  apply List.ext_getElem?
  intro i
  rw [List.getElem?_map, List.getElem?_map]
  by_cases h : k = i
  · subst h
    rw [List.getElem?_set_self (List.getElem?_eq_some_iff.1 hk).1, hk]
    rfl
  · rw [List.getElem?_set_ne h]
/-- A part's turn: its items will stand at the list's end. -/
theorem Sp.turn {x : It} {k : Nat} {ps : List Pt} (h : Sp x k ps) {p : Pt} (hk : ps[k]? = some p) : Sq x k 0 { p with it := ps.length } (ps.set k { p with it := (ps.length : Int) }) := by
  have hl := (List.getElem?_eq_some_iff.1 hk).1
  have hx : (ps.map (·.x))[k]? = some p.x := by rw [List.getElem?_map, hk]; rfl
  refine ⟨by rw [map_set_same hk]; exact h.first, fun i q hi hq => ?_, List.getElem?_set_self hl, by rw [List.length_set]; simp, ⟨ps.length, rfl, fun i y hi => absurd hi (by omega)⟩, ?_, fun Q h0 hQ q hq => ?_⟩
  · rw [List.getElem?_set_ne (by omega)] at hq
    exact (h.done i q hi hq).put k _ hx
  · have hc := h.cnt
    have hd : ps.drop k = p :: ps.drop (k + 1) := by
      rw [List.drop_eq_getElem_cons hl]
      rw [List.getElem?_eq_getElem hl] at hk
      injection hk with hk
      rw [hk]
    rw [hd] at hc
    unfold cntP at hc ⊢
    rw [List.drop_set_of_lt (by omega)]
    simp only [List.map_cons, countL] at hc
    rw [It.count_eq] at hc
    simp only [List.drop_zero]
    omega
  · rcases List.mem_or_eq_of_mem_set hq with e | e
    · exact h.her Q h0 hQ q e
    · subst e; exact h.her Q h0 hQ p (List.mem_of_getElem? hk)
theorem Sq.push {x : It} {k j : Nat} {p : Pt} {ps : List Pt} (h : Sq x k j p ps) {y : It} (hy : p.x.l[j]? = some y) (A : Option Addr) (cap : Nat) (z : Int) : Sq x k (j + 1) p (ps ++ [⟨y, A, cap, z⟩]) := by
  have hl := (List.getElem?_eq_some_iff.1 h.cur).1
  obtain ⟨c, e, hK⟩ := h.kids
  have hp := h.pos
  refine ⟨?_, fun i q hi hq => ?_, by rw [List.getElem?_append_left hl]; exact h.cur, by rw [List.length_append]; simp; omega, ⟨c, e, fun i u hi hu => ?_⟩, ?_, fun Q h0 hQ q hq => ?_⟩
  · rw [List.map_append, List.getElem?_append_left (by rw [List.length_map]; omega)]
    exact h.first
  · rw [List.getElem?_append_left (by omega)] at hq
    exact (h.done i q hi hq).more _
  · by_cases hij : i = j
    · subst hij
      rw [hy] at hu
      injection hu with hu
      subst hu
      exact ⟨⟨y, A, cap, z⟩, by rw [List.getElem?_append_right (by omega), show c + i - ps.length = 0 by omega]; rfl, rfl⟩
    · obtain ⟨r, hr, hx⟩ := hK i u (by omega) hu
      exact ⟨r, by rw [List.getElem?_append_left (List.getElem?_eq_some_iff.1 hr).1, hr], hx⟩
  · have hc := h.cnt
    have hj := (List.getElem?_eq_some_iff.1 hy).1
    have hd := countL_drop hj
    rw [List.getElem?_eq_getElem hj] at hy
    injection hy with hy
    rw [hy] at hd
    unfold cntP at hc ⊢
    rw [List.drop_append_of_le_length (by omega), List.map_append, countL_append]
    simp only [List.map_cons, List.map_nil, countL]
    omega
  · rcases List.mem_append.1 hq with e | e
    · exact h.her Q h0 hQ q e
    · simp only [List.mem_singleton] at e
      subst e
      exact hQ p.x (h.her Q h0 hQ p (List.mem_of_getElem? h.cur)) y (List.mem_of_getElem? hy)
theorem Sq.close {x : It} {k : Nat} {p : Pt} {ps : List Pt} (h : Sq x k p.x.l.length p ps) : Sp x (k + 1) ps := by
  have hl := (List.getElem?_eq_some_iff.1 h.cur).1
  refine ⟨h.first, fun i q hi hq => ?_, ?_, hl, h.her⟩
  · by_cases e : i = k
    · subst e
      rw [h.cur] at hq
      injection hq with hq
      subst hq
      exact h.kids
    · exact h.done i q (by omega) hq
  · have hc := h.cnt
    rw [List.drop_of_length_le (Nat.le_refl _)] at hc
    simpa [countL] using hc
theorem Sp.bound {x : It} {k : Nat} {ps : List Pt} (h : Sp x k ps) : ps.length ≤ x.count := by
  have hc := h.cnt
  have := length_le_countL ((ps.drop k).map (·.x))
  rw [List.length_map, List.length_drop] at this
  unfold cntP at hc
  have := h.le
  omega
theorem Sq.bound {x : It} {k j : Nat} {p : Pt} {ps : List Pt} (h : Sq x k j p ps) (hj : j < p.x.l.length) : ps.length < x.count := by
  have hc := h.cnt
  have h1 := length_le_countL ((ps.drop (k + 1)).map (·.x))
  rw [List.length_map, List.length_drop] at h1
  have h2 := length_le_countL (p.x.l.drop j)
  rw [List.length_drop] at h2
  unfold cntP at hc
  have := (List.getElem?_eq_some_iff.1 h.cur).1
  omega
set_option maxRecDepth 100000 in
set_option maxHeartbeats 4000000 in
theorem den_spread (x : It) (A : Option Addr) (cap n : Nat) (w : World) (hc : x.count ≤ 1000000000) (hn : n ≤ w.heap.size) (h : AtB w n x A cap) :
    Calls Tryz.prog 22 #[vI x A cap] w fun e w' => ∃ v ps, e = .returned v ∧ OwnP w' w.heap.size v ps ∧ Sp x ps.length ps ∧ (∀ p ∈ ps, AtB w' n p.x p.A p.cap) ∧ Below w.heap.size w w' := by
  obtain ⟨w1, hw1, b1, S⟩ := iblk1 w 28 #[.int .i64 x.k, .int .u64 x.n, .string x.s, .slice A x.l.length cap]
  obtain ⟨p0, p1, p2, p3, -⟩ := iblk b1
  have HS := Lib.hid S
  have HC := Lib.hid hc
  have HAT := Lib.hid h
  have HNN := Lib.hid hn
  have HO1 := Lib.hid (oc_new w1 w1.heap.size 77 5 1 #[.int .i64 x.k, .int .u64 x.n, .string x.s, .slice A x.l.length cap, .int .i64 0] rfl (Nat.le_refl _) (by decide))
  have S2 := below_alloc w1 (.cells #[.int .i64 x.k, .int .u64 x.n, .string x.s, .slice A x.l.length cap, .int .i64 0] 77)
  have HLE := Lib.hid S.size
  clear S h hc b1 hn
  simp only [vI]
  go_enter Tryz.func22, Tryz.ntmps22
  go_wp2_with fail
  generalize w1.alloc (.cells #[.int .i64 x.k, .int .u64 x.n, .string x.s, .slice A x.l.length cap, .int .i64 0] 77) = w2 at *
  have HB2 := Lib.hid (HS.out.trans (S2.mono HS.out.size))
  have HOW : Hid (OwnP w2 w.heap.size (.slice (some ⟨w1.heap.size, 0, none⟩) 1 1) [⟨x, A, cap, 0⟩]) := Lib.hid (oc_less HO1.out HLE.out)
  clear S2 HO1
  go_loopw [3, 4] (fun v i W => ∃ (k : Nat) (ps : List Pt), i = .int .i64 (k : Int) ∧ Hid (Sp x k ps) ∧ Hid (OwnP W w.heap.size v ps) ∧ Hid (∀ p ∈ ps, AtB w n p.x p.A p.cap) ∧ Hid (Below w.heap.size w W)) (fun _ i _ => x.count - (intOf i).toNat)
  case atStart => exact ⟨0, [⟨x, A, cap, 0⟩], rfl, Lib.hid (Sp.start x A cap 0), HOW, Lib.hid (fun p hp => by simp only [List.mem_singleton] at hp; subst hp; exact HAT.out), HB2⟩
  case round =>
    clear HOW HB2
    obtain ⟨k, ps, rfl, HSP, HO, HP, HB⟩ := hrel
    by_cases hlt : k < ps.length
    · obtain ⟨⟨px, pA, pcap, pit⟩, hp⟩ : ∃ p, ps[k]? = some p := ⟨_, List.getElem?_eq_getElem hlt⟩
      obtain ⟨g, cap2, rfl, -, -, -, -⟩ := oc_head HO.out (by omega)
      obtain ⟨c0, c1, c2, c3, c4, f4⟩ := HO.out.at_ hp
      have HAP := Lib.hid (HP.out _ (List.mem_of_getElem? hp))
      have HSQ := Lib.hid (HSP.out.turn hp)
      have hO2 := HO.out.set hp (ps.length : Int)
      have hP2 : ∀ q ∈ ps.set k ⟨px, pA, pcap, (ps.length : Int)⟩, AtB w n q.x q.A q.cap := fun q hq => by
        rcases List.mem_or_eq_of_mem_set hq with h | h
        · exact HP.out q h
        · subst h; exact HAP.out
      have hbd := HSP.out.bound
      have hbi : (ps.length : Int) ≤ 1000000000 := by have := HC.out; omega
      have HKC := Lib.hid (show k < x.count by omega)
      obtain ⟨m, hm⟩ : ∃ m, ps.length = m := ⟨_, rfl⟩
      rw [hm] at HSQ hO2 hP2 hlt hbi ⊢
      generalize ps.set k ⟨px, pA, pcap, (m : Int)⟩ = ps2 at *
      obtain ⟨d0, d1, d2, d3, d4, -⟩ := hO2.at_ HSQ.out.cur
      have HO2 := Lib.hid hO2
      have HP2 := Lib.hid hP2
      have HB2 := Lib.hid (HB.out.setCell (p := ⟨g, k * 5 + 4, none⟩) (by have := (oc_blk HO.out).choose_spec.2.1; exact this) (.int .i64 (m : Int)))
      have hki : (k : Int) < (m : Int) := by omega
      dsimp only at c0 c1 c2 c3 c4 d0 d1 d2 d3 d4
      clear hp hO2 hP2 hbd HO HP HB HSP hm
      obtain ⟨L, hL⟩ : ∃ L, px.l.length = L := ⟨_, rfl⟩
      have HL := Lib.hid hL
      have HZI := item_zero4
      rw [hL] at d3
      clear hL
      have hLi : (L : Int) ≤ 1000000000 := by have h1 := HC.out; have h2 := HSQ.out.cnt; have h3 := length_le_countL px.l; rw [HL.out] at h3; simp only [List.drop_zero] at h2; omega
      go_wp2_with fail
      go_loopw [3, 29] (fun v i W => ∃ (j : Nat) (ps3 : List Pt), i = .int .i64 (j : Int) ∧ (j : Int) ≤ (L : Int) ∧ Hid (Sq x k j ⟨px, pA, pcap, (m : Int)⟩ ps3) ∧ Hid (OwnP W w.heap.size v ps3) ∧ Hid (∀ p ∈ ps3, AtB w n p.x p.A p.cap) ∧ Hid (Below w.heap.size w W)) (fun _ i _ => L - (intOf i).toNat)
      case atStart => exact ⟨0, ps2, rfl, by omega, HSQ, by have h := HO2.out; have h2 := HSQ.out.pos; exact Lib.hid (by simpa using h), HP2, HB2⟩
      case round =>
        clear HSQ HO2 HP2 HB2 d0 d1 d2 d3 d4 c0 c1 c2 c3 c4 f4
        obtain ⟨j, ps3, rfl, hj, HSQ, HO3, HP3, HB3⟩ := hrel
        by_cases hjl : (j : Int) < (L : Int)
        · obtain ⟨b, o, X, A', cap', hA, -, -, hX, -, e0, e1, e2, e3, hXat⟩ := (HAP.out.keep (HB3.out.mono HNN.out)).item (i := j) (by rw [HL.out]; omega)
          have hXw : AtB w n X A' cap' := by
            obtain ⟨b2, o2, X2, A2, cap2', hA2, -, -, hX2, -, q0, q1, q2, q3, hat⟩ := HAP.out.item (i := j) (by rw [HL.out]; omega)
            rw [hX] at hX2
            injection hX2 with hX2
            subst hX2
            rw [hA] at hA2
            injection hA2 with hA2
            injection hA2 with r1 r2
            subst r1 r2
            have := e3.symm.trans ((HB3.out.cell (p := ⟨b, o + j * 4 + 3, none⟩) (block_lt_of_cell q3)).trans q3)
            injection this with this
            injection this with t1 t2 t3
            rw [t1, t3]
            exact hat
          subst hA
          have hbd := HSQ.out.bound (by show j < px.l.length; rw [HL.out]; omega)
          have HSQ2 := Lib.hid (HSQ.out.push hX A' cap' 0)
          have HP4 : Hid (∀ p ∈ ps3 ++ [⟨X, A', cap', 0⟩], AtB w n p.x p.A p.cap) := Lib.hid (fun q hq => by
            rcases List.mem_append.1 hq with h | h
            · exact HP3.out q h
            · simp only [List.mem_singleton] at h; subst h; exact hXw)
          have b0 : Blk (wr.alloc (.cells #[.int .i64 0, .int .u64 0, .string ⟨#[]⟩, .slice none 0 0] 28)) wr.heap.size 28 #[.int .i64 0, .int .u64 0, .string ⟨#[]⟩, .slice none 0 0] := Blk.fresh _ _ _
          have S0 := below_alloc wr (.cells #[.int .i64 0, .int .u64 0, .string ⟨#[]⟩, .slice none 0 0] 28)
          obtain ⟨wZ, hwZ⟩ : ∃ wZ, wr.alloc (.cells #[.int .i64 0, .int .u64 0, .string ⟨#[]⟩, .slice none 0 0] 28) = wZ := ⟨_, rfl⟩
          rw [hwZ] at b0 S0
          have hst0 := run_store_all (P := Tryz.prog) (ty := 28) (c' := #[.int .i64 X.k, .int .u64 X.n, .string X.s, .slice A' X.l.length cap']) b0 item_info4 rfl (by simp [Value.oneCell'])
          have b5 := b0.setRow #[.int .i64 X.k, .int .u64 X.n, .string X.s, .slice A' X.l.length cap']
          have S5 := below_row S0 (Nat.le_refl _) #[.int .i64 X.k, .int .u64 X.n, .string X.s, .slice A' X.l.length cap']
          generalize wZ.setRow wr.heap.size #[.int .i64 X.k, .int .u64 X.n, .string X.s, .slice A' X.l.length cap'] = w5 at *
          have HST0 := Lib.hid hst0
          have HB5 := Lib.hid (HB3.out.trans (S5.mono HB3.out.size))
          obtain ⟨v', w7, hR, hO', hB'⟩ := push_part (HO3.out.on S5) ⟨X, A', cap', 0⟩ (by have := HC.out; omega) (HB3.out.trans (S5.mono HB3.out.size)).size
          have HR7 := Lib.hid hR
          have HO7 := Lib.hid hO'
          have HB7 := Lib.hid (HB5.out.trans hB')
          obtain ⟨i0, i1, i2, i3, -⟩ := iblk b5
          dsimp only at HR7
          clear b0 S0 hst0 S5 hR hO' hB' hXat hXw hX hbd b5 HO3 HP3 HB3 HSQ HB5
          go_wp2_with (first
            | ((with_reducible refine is_append 61 rfl ?_); (with_reducible refine wpList_append_run rfl rfl HR7.out ?_ ?_ ?_); (· rfl); (· rfl))
            | ((with_reducible refine is_store 28 rfl ?_); (with_reducible refine wpList_store_run rfl rfl HST0.out ?_ ?_ ?_); (· rfl); (· rfl))
            | fail)
          go_roundw
          case rel => exact ⟨j + 1, ps3 ++ [⟨X, A', cap', 0⟩], by simp, by omega, HSQ2, HO7, HP4, HB7⟩
          case measure => simp [intOf]; omega
        · obtain rfl : j = L := by omega
          have HSP2 := Lib.hid (Sq.close (p := ⟨px, pA, pcap, (m : Int)⟩) (by have := HL.out; have h := HSQ.out; rw [← this] at h; exact h))
          go_wp2_with fail
          go_roundw
          case rel => exact ⟨k + 1, ps3, by simp, HSP2, HO3, HP3, HB3⟩
          case measure => have := HKC.out; simp [intOf]; omega
    · have hkl : k = ps.length := by have := HSP.out.le; omega
      obtain ⟨A9, cap9, rfl, -⟩ := oc_form HO.out
      have hnl : ¬ (k : Int) < (ps.length : Int) := by omega
      have HPF : Hid (∀ p ∈ ps, AtB wr n p.x p.A p.cap) := Lib.hid (fun p hp => (HP.out p hp).keep (HB.out.mono HNN.out))
      have HSF : Hid (Sp x ps.length ps) := Lib.hid (by have h := HSP.out; rwa [hkl] at h)
      clear hkl hlt
      obtain ⟨m, hm⟩ : ∃ m, ps.length = m := ⟨_, rfl⟩
      have HM := Lib.hid hm
      rw [hm] at hnl ⊢
      clear hm
      go_wp2_with fail
      go_ret
      exact ⟨_, rfl, ps, by have h := HO.out; rw [HM.out] at h; exact h, HSF.out, HPF.out, HB.out⟩
end Go.Proofs.YtjelgoeamaejmaaGreat
