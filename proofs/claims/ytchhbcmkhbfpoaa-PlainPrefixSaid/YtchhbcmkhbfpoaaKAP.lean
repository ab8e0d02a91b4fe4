/- The document's scan (layer 14): note. -/
import Derived.Test.YtchhbcmkhbfpoaaKAO
import Derived.OwnWalk
import Derived.Deep.WholeRow
namespace Go.Proofs.Ytchhbcmkhbfpoaa
open Go.RowKit

def ints (l : List Int) : List Value := l.map (Value.int .i64)
/-- A scan whose lists of places and of errors are being made longer; cA, cE: what its cells hold of them. -/
structure SnG (w : World) (B g : Nat) (A : Option Addr) (cap : Nat) (L : List Int) (d k s : Int) (cA cE : Value) (zA zE : List Int) (E : List AEv) (vA vE vV : Value) : Prop where
  blk : Blk w g 46 (scells A L.length cap d k s cA cE vV)
  at_ : w.ownsRow B 3 1 vA zA.length (ints zA)
  er : w.ownsRow B 3 1 vE zE.length (ints zE)
  ev : w.ownsRow B 48 7 vV E.length (evCells E)
  ne : vA.ownBlock = none ∨ vA.ownBlock ≠ vE.ownBlock
  rd : Rd w B .u8 A L
  ge : B ≤ g
  lo : B ≤ w.heap.size
section
variable {w w' : World} {B g : Nat} {A : Option Addr} {cap : Nat} {L : List Int} {d k s : Int} {cA cE : Value} {zA zE : List Int} {E : List AEv} {vA vE vV vA' vE' : Value} {x : Int}
theorem SnG.on (h : SnG w B g A cap L d k s cA cE zA zE E vA vE vV) (hb : Below w.heap.size w w') : SnG w' B g A cap L d k s cA cE zA zE E vA vE vV :=
  ⟨h.blk.on hb, oc_on h.at_ hb, oc_on h.er hb, oc_on h.ev hb, h.ne, h.rd.below (hb.mono h.lo), h.ge, Nat.le_trans h.lo hb.size⟩
theorem ints_snoc (z : List Int) (x : Int) : ints z ++ [.int .i64 x] = ints (z ++ [x]) := by simp [ints]
theorem SnG.stepA (h : SnG w B g A cap L d k s cA cE zA zE E vA vE vV) (ho : w'.ownsRow B 3 1 vA' (zA.length + 1) (ints zA ++ [.int .i64 x])) (hb : Below B w w') (hg : w.grownBy w' vA.ownBlock) (ha : vA'.ownBlock = vA.ownBlock ∨ vA'.ownBlock = some w.heap.size) :
    SnG w' B g A cap L d k s cA cE (zA ++ [x]) zE E vA' vE vV := by
  refine ⟨blk_grown h.blk h.at_ (by decide) hg, by rw [List.length_append, ← ints_snoc]; exact ho, h.er.kept hg ?_, h.ev.kept hg (own_diff h.ev h.at_ (by decide)), ?_, h.rd.below hb, h.ge, Nat.le_trans h.lo hb.size⟩
  · rcases h.ne with h1 | h1
    · by_cases h2 : vE.ownBlock = none
      · exact .inl h2
      · right; rw [h1]; exact h2
    · exact .inr (fun e => h1 e.symm)
  · rcases ha with ha | ha
    · rw [ha]; exact h.ne
    · right
      rw [ha]
      rcases own_ltb h.er with h1 | ⟨g', h1, _, h2⟩
      · rw [h1]; simp
      · rw [h1]; simp; omega
theorem SnG.stepE (h : SnG w B g A cap L d k s cA cE zA zE E vA vE vV) (ho : w'.ownsRow B 3 1 vE' (zE.length + 1) (ints zE ++ [.int .i64 x])) (hb : Below B w w') (hg : w.grownBy w' vE.ownBlock) (ha : vE'.ownBlock = vE.ownBlock ∨ vE'.ownBlock = some w.heap.size) :
    SnG w' B g A cap L d k s cA cE zA (zE ++ [x]) E vA vE' vV := by
  refine ⟨blk_grown h.blk h.er (by decide) hg, h.at_.kept hg h.ne, by rw [List.length_append, ← ints_snoc]; exact ho, h.ev.kept hg (own_diff h.ev h.er (by decide)), ?_, h.rd.below hb, h.ge, Nat.le_trans h.lo hb.size⟩
  rcases ha with ha | ha
  · rw [ha]; exact h.ne
  · rcases own_ltb h.at_ with h1 | ⟨g', h1, _, h2⟩
    · exact .inl h1
    · right; rw [h1, ha]; simp; omega
/-- The cells that note reads and stores. -/
theorem SnG.cells (h : SnG w B g A cap L d k s cA cE zA zE E vA vE vV) : w.cell? ⟨g, 4, none⟩ = some cA ∧ w.cell? ⟨g, 5, none⟩ = some cE ∧ w.frozen? ⟨g, 4, none⟩ = false ∧ w.frozen? ⟨g, 5, none⟩ = false :=
  ⟨h.blk.cell 4, h.blk.cell 5, h.blk.free 4, h.blk.free 5⟩
theorem SnG.lt (h : SnG w B g A cap L d k s cA cE zA zE E vA vE vV) : g < w.heap.size := h.blk.lt
end
/-- A slice of one number, laid. -/
theorem one_cell {w : World} {g : Nat} {x : Int} (h : Blk w g 3 #[.int .i64 x]) : ∀ (j : Nat) (u : Value), [Value.int .i64 x][j]? = some u → w.cell? ((⟨g, 0, none⟩ : Addr).add j) = some u := fun j u hj => by
  cases j with
  | zero => injection hj with hj; subst hj; exact h.cell 0
  | succ j => cases hj
theorem one_one (x : Int) : ∀ u ∈ [Value.int .i64 x], u.oneCell' = true := fun u hu => by rw [List.mem_singleton] at hu; subst hu; rfl
section
variable {w : World} {B g : Nat} {A : Option Addr} {cap : Nat} {L : List Int} {d k s : Int} {N : List Note} {E : List AEv} {vA vE vV : Value}
theorem SnV.toG (h : SnV w B g A cap L d k s N E vA vE vV) (hB : B ≤ w.heap.size) : SnG w B g A cap L d k s vA vE (N.map fun n => (n.1 : Int)) (N.map fun n => n.2) E vA vE vV :=
  ⟨h.blk, by rw [List.length_map]; have := h.at_; simpa [ints, List.map_map, Function.comp_def] using this, by rw [List.length_map]; have := h.er; simpa [ints, List.map_map, Function.comp_def] using this, h.ev, h.ne, h.rd, h.ge, hB⟩
theorem SnG.toV (h : SnG w B g A cap L d k s vA vE (N.map fun n => (n.1 : Int)) (N.map fun n => n.2) E vA vE vV) : SnV w B g A cap L d k s N E vA vE vV :=
  ⟨h.blk, by have := h.at_; rw [List.length_map] at this; simpa [ints, List.map_map, Function.comp_def] using this, by have := h.er; rw [List.length_map] at this; simpa [ints, List.map_map, Function.comp_def] using this, h.ev, h.ne, h.rd, h.ge⟩
end
theorem int8 : (Try.prog.info? 3).map (fun i => (i.zero, i.size, i.bytes)) = some (some (.int .i64 0), 1, 8) := by kernel_rfl
set_option maxRecDepth 100000 in
set_option maxHeartbeats 4000000 in
theorem ref_note (w : World) (B g : Nat) (A : Option Addr) (cap : Nat) (L : List Int) (d k s : Int) (N : List Note) (E : List AEv) (p : Nat) (e : Int) (h : Sn w B g A cap L d k s N E) (hB : B ≤ w.heap.size) (hn : N.length ≤ 1000000000) :
    Calls Try.prog 25 #[.pointer (some ⟨g, 0, none⟩), .int .i64 p, .int .i64 e] w fun r w' => r = .returned (.tuple #[]) ∧ Sn w' B g A cap L d k s (N ++ [(p, e)]) E ∧ Below B w w' := by
  obtain ⟨vA, vE, vV, hV⟩ := h
  have hG := hV.toG hB
  have hla : (N.map fun n => (n.1 : Int)).length = N.length := List.length_map _
  have hle : (N.map fun n => n.2).length = N.length := List.length_map _
  have HF : Hid (∀ W vA' vE', Below B w W → SnG W B g A cap L d k s vA vE ((N.map fun n => (n.1 : Int)) ++ [(p : Int)]) ((N.map fun n => n.2) ++ [e]) E vA' vE' vV → Sn ((W.setCell ⟨g, 4, none⟩ vA').setCell ⟨g, 5, none⟩ vE') B g A cap L d k s (N ++ [(p, e)]) E ∧ Below B w ((W.setCell ⟨g, 4, none⟩ vA').setCell ⟨g, 5, none⟩ vE')) := fun W vA' vE' hb hs => by
    have hge := hs.ge
    refine ⟨⟨vA', vE', vV, SnG.toV ?_⟩, (hb.setCell hge _).setCell hge _⟩
    have far : ∀ {t : TypeId} {c : Nat} {v : Value} {n : Nat} {cs : List Value}, W.ownsRow B t c v n cs → t ≠ 46 → ((W.setCell ⟨g, 4, none⟩ vA').setCell ⟨g, 5, none⟩ vE').ownsRow B t c v n cs := fun {t c v n cs} ho ht => by
      rcases ho with ⟨h0, h1⟩
      refine ⟨h0, ?_⟩
      rcases h1 with h1 | ⟨g', cp, cur, hv, hb', hh, r⟩
      · exact .inl h1
      · have hne : g' ≠ g := fun e => by
          subst e
          have := hh.symm.trans hs.blk
          injection this with this
          injection this with _ h2 _
          exact ht h2
        refine .inr ⟨g', cp, cur, hv, hb', ?_, r⟩
        rw [Below.heap_setCell _ _ _ g' hne, Below.heap_setCell _ _ _ g' hne]
        exact hh
    have e1 : ((N ++ [(p, e)]).map fun n => (n.1 : Int)) = (N.map fun n => (n.1 : Int)) ++ [(p : Int)] := by simp
    have e2 : ((N ++ [(p, e)]).map fun n => n.2) = (N.map fun n => n.2) ++ [e] := by simp
    rw [e1, e2]
    refine ⟨(hs.blk.put 4 vA').put 5 vE', far hs.at_ (by decide), far hs.er (by decide), far hs.ev (by decide), hs.ne, ?_, hge, by simpa [World.setCell] using hs.lo⟩
    exact hs.rd.keep fun q hq => ((Below.refl B W).setCell (p := ⟨g, 4, none⟩) hge _ |>.setCell (p := ⟨g, 5, none⟩) hge _).cell hq
  generalize (N.map fun n => (n.1 : Int)) = zA at *
  generalize (N.map fun n => n.2) = zE at *
  have hz : zA.length ≤ 1000000000 ∧ zE.length ≤ 1000000000 := by omega
  clear hV hla hle hn
  have hx1 : Blk (w.alloc (.cells #[.int .i64 p] 3)) w.heap.size 3 #[.int .i64 p] := Blk.fresh _ _ _
  have J1 : Hid (SnG (w.alloc (.cells #[.int .i64 p] 3)).drew B g A cap L d k s vA vE zA zE E vA vE vV ∧ Blk (w.alloc (.cells #[.int .i64 p] 3)).drew w.heap.size 3 #[.int .i64 p] ∧ Below B w (w.alloc (.cells #[.int .i64 p] 3)).drew) :=
    ⟨hG.on (below_drawn (below_alloc _ _)), hx1.drew, (below_drawn (below_alloc _ _)).mono hB⟩
  have J2 : Hid (SnG ((w.alloc (.cells #[.int .i64 p] 3)).alloc (.cells #[.int .i64 e] 3)).drew B g A cap L d k s vA vE zA zE E vA vE vV ∧ Blk ((w.alloc (.cells #[.int .i64 p] 3)).alloc (.cells #[.int .i64 e] 3)).drew w.heap.size 3 #[.int .i64 p] ∧ Blk ((w.alloc (.cells #[.int .i64 p] 3)).alloc (.cells #[.int .i64 e] 3)).drew (w.heap.size + 1) 3 #[.int .i64 e] ∧ Below B w ((w.alloc (.cells #[.int .i64 p] 3)).alloc (.cells #[.int .i64 e] 3)).drew) :=
    ⟨hG.on (below_drawn ((below_alloc _ _).alloc (by simp) _)), (hx1.alloc _).drew, Blk.freshAt _ _ _ _ (by simp), (below_drawn ((below_alloc _ _).alloc (by simp) _)).mono hB⟩
  have J3 : Hid (SnG ((w.alloc (.cells #[.int .i64 e] 3)).alloc (.cells #[.int .i64 p] 3)).drew B g A cap L d k s vA vE zA zE E vA vE vV ∧ Blk ((w.alloc (.cells #[.int .i64 e] 3)).alloc (.cells #[.int .i64 p] 3)).drew (w.heap.size + 1) 3 #[.int .i64 p] ∧ Blk ((w.alloc (.cells #[.int .i64 e] 3)).alloc (.cells #[.int .i64 p] 3)).drew w.heap.size 3 #[.int .i64 e] ∧ Below B w ((w.alloc (.cells #[.int .i64 e] 3)).alloc (.cells #[.int .i64 p] 3)).drew) :=
    ⟨hG.on (below_drawn ((below_alloc _ _).alloc (by simp) _)), Blk.freshAt _ _ _ _ (by simp), ((Blk.fresh _ _ _).alloc _).drew, (below_drawn ((below_alloc _ _).alloc (by simp) _)).mono hB⟩
  -- a laid number is left alone by what is appended to the places
  have HX : Hid (∀ W W1 gx, SnG W B g A cap L d k s vA vE zA zE E vA vE vV → w.heap.size ≤ gx → Blk W gx 3 #[.int .i64 e] → W.grownBy W1 vA.ownBlock → Blk W1 gx 3 #[.int .i64 e]) := fun W W1 gx hs hgx hb hg => by
    refine (hg.block gx hb.lt ?_).trans hb
    intro he
    rcases own_ltb hG.at_ with h1 | ⟨g', h1, _, h2⟩
    · rw [h1] at he; cases he
    · rw [h1] at he; injection he with he; omega
  obtain ⟨c4, c5, f4, f5⟩ := hG.cells
  obtain ⟨a4, a5, _, _⟩ := J1.out.1.cells
  obtain ⟨b4, b5, _, _⟩ := J2.out.1.cells
  obtain ⟨d4, d5, _, _⟩ := J3.out.1.cells
  have e4 : (w.alloc (.cells #[.int .i64 e] 3)).cell? ⟨g, 4, none⟩ = some vA := (hG.on (below_alloc _ _)).cells.1
  have e5 : (w.alloc (.cells #[.int .i64 e] 3)).cell? ⟨g, 5, none⟩ = some vE := (hG.on (below_alloc _ _)).cells.2.1
  have hsl : (zA.length : Nat) + 1 ≤ 1099511627776 ∧ (zE.length : Nat) + 1 ≤ 1099511627776 := by omega
  have HSL := Lib.hid hsl
  have HB0 := Lib.hid hB
  clear hx1 hG hz hsl hB
  go_enter Try.func25, Try.ntmps25
  go_region_law ((first
    | (refine step_append_at (t := 43) (e := 3) (bytes := 8) (sz := 1) (z := .int .i64 0) (B := B) (v := vA) (n := zA.length) (m := 1) (c := 1) (cs := ints zA) (news := [.int .i64 (p : Int)]) rfl rfl rfl rfl (by kernel_rfl) int8 rfl (by decide) (by decide) (by first | exact J1.out.1.at_ | exact J2.out.1.at_ | exact J3.out.1.at_) rfl (by first | exact one_cell J1.out.2.1 | exact one_cell J2.out.2.1 | exact one_cell J3.out.2.1) (one_one _) HSL.out.1 (by first | exact J1.out.1.lo | exact J2.out.1.lo | exact J3.out.1.lo) ?_; intro v1 W1 h1 h2 h3 h4; obtain ⟨A1, k1, hv1, -⟩ := oc_form h1; subst hv1; have HM := Lib.hid (show SnG W1 B g A cap L d k s vA vE (zA ++ [(p : Int)]) zE E _ vE vV by first | exact J1.out.1.stepA h1 h2 h3 h4 | exact J2.out.1.stepA h1 h2 h3 h4 | exact J3.out.1.stepA h1 h2 h3 h4); have HL1 := Lib.hid (show Below B w W1 by first | exact J1.out.2.2.trans h2 | exact J2.out.2.2.2.trans h2 | exact J3.out.2.2.2.trans h2); (first | have HX2 := Lib.hid (HX.out _ W1 _ J2.out.1 (Nat.le_succ _) J2.out.2.2.1 h3) | have HX2 := Lib.hid (HX.out _ W1 _ J3.out.1 (Nat.le_refl _) J3.out.2.2.1 h3) | skip); obtain ⟨m4, m5, _, _⟩ := HM.out.cells; obtain ⟨m6, m7, _, _⟩ := (HM.out.on (below_alloc W1 (.cells #[.int .i64 e] 3))).cells; clear h1 h2 h3 h4)
    | (refine step_append_at (t := 43) (e := 3) (bytes := 8) (sz := 1) (z := .int .i64 0) (B := B) (v := vE) (n := zE.length) (m := 1) (c := 1) (cs := ints zE) (news := [.int .i64 e]) rfl rfl rfl rfl (by kernel_rfl) int8 rfl (by decide) (by decide) (by first | exact HM.out.er | exact oc_alloc HM.out.er _) rfl (by first | exact one_cell HX2.out | exact one_cell (Blk.fresh W1 3 #[.int .i64 e])) (one_one _) HSL.out.2 (by first | exact HM.out.lo | exact (HM.out.on (below_alloc W1 (.cells #[.int .i64 e] 3))).lo) ?_; intro v2 W2 h1 h2 h3 h4; obtain ⟨A2, k2, hv2, -⟩ := oc_form h1; subst hv2; have HM2 := Lib.hid (show SnG W2 B g A cap L d k s vA vE (zA ++ [(p : Int)]) (zE ++ [e]) E _ _ vV by first | exact HM.out.stepE h1 h2 h3 h4 | exact (HM.out.on (below_alloc W1 (.cells #[.int .i64 e] 3))).stepE h1 h2 h3 h4); have HL2 := Lib.hid (show Below B w W2 by first | exact HL1.out.trans h2 | exact (HL1.out.trans ((below_alloc W1 (.cells #[.int .i64 e] 3)).mono HM.out.lo)).trans h2); obtain ⟨n4, n5, n6, n7⟩ := HM2.out.cells; clear h1 h2 h3 h4)
    | fail))
  all_goals
    go_wp2_with fail
    go_end0
    exact ⟨rfl, HF.out _ _ _ HL2.out HM2.out⟩
end Go.Proofs.Ytchhbcmkhbfpoaa

/- The document's scan (layer 14), plain: where it ends, how much it notes. -/
namespace Go.Proofs.Ytchhbcmkhbfpoaa

structure Bd (B : List Int) (a : Nat) (r : Sc) : Prop where
  lo : a ≤ r.to
  hi : r.to ≤ B.length
  ok : r.ok = true → r.notes.length ≤ 6 * (r.to - a) ∧ r.evs.length ≤ 6 * (r.to - a)
  no : r.ok = false → r.notes.length ≤ 6 * (B.length - a) + 6 ∧ r.evs.length ≤ 6 * (B.length - a) + 6
structure BdI (B : List Int) (a : Nat) (r : Sc) : Prop extends Bd B a r where
  one : r.ok = true → a < r.to ∧ r.notes.length + 2 ≤ 6 * (r.to - a) ∧ r.evs.length + 2 ≤ 6 * (r.to - a)
section
variable {B : List Int}
theorem bd_many (lim : Nat) (item : Nat → Sc) (hi : ∀ a, lim ≤ a → a ≤ B.length → BdI B a (item a)) (n : Nat) : ∀ a, lim ≤ a → a ≤ B.length → Bd B a (scMany item n a) := by
  induction n with
  | zero => intro a _ ha; exact ⟨Nat.le_refl _, ha, fun _ => ⟨Nat.zero_le _, Nat.zero_le _⟩, fun h => by cases h⟩
  | succ n ih =>
    intro a hl ha
    have h1 := hi a hl ha
    unfold scMany
    split
    · next hok =>
      have h2 := ih (item a).to (Nat.le_trans hl h1.lo) h1.hi
      obtain ⟨q1, q2, q3⟩ := h1.one hok
      refine ⟨Nat.le_trans h1.lo h2.lo, h2.hi, fun h => ?_, fun h => ?_⟩
      · have := h2.ok h
        have := h2.lo
        simp only [List.length_append]
        omega
      · have := h2.no h
        have := h1.hi
        simp only [List.length_append]
        omega
    · exact h1.toBd
theorem bd_pairs (lim : Nat) (ik iv : Nat → Sc) (hk : ∀ a, lim ≤ a → a ≤ B.length → BdI B a (ik a)) (hv : ∀ a, lim ≤ a → a ≤ B.length → BdI B a (iv a)) (n : Nat) : ∀ fst last a, lim ≤ a → a ≤ B.length → Bd B a (scPairs B ik iv n fst last a) := by
  induction n with
  | zero => intro _ _ a _ ha; exact ⟨Nat.le_refl _, ha, fun _ => ⟨Nat.zero_le _, Nat.zero_le _⟩, fun h => by cases h⟩
  | succ n ih =>
    intro fst last a hl ha
    have h1 := hk a hl ha
    unfold scPairs scPair
    dsimp only
    split
    · next hok =>
      obtain ⟨q1, q2, q3⟩ := h1.one hok
      have h2 := hv (ik a).to (Nat.le_trans hl h1.lo) h1.hi
      have hnn : (if (!fst && !ahead last (slice B a (ik a).to)) = true then [(((ik a).to - 1, 7) : Note)] else []).length ≤ 1 := by split <;> simp
      generalize (if (!fst && !ahead last (slice B a (ik a).to)) = true then [(((ik a).to - 1, 7) : Note)] else []) = nn at *
      have e1 := h1.hi
      split
      · next hok2 =>
        obtain ⟨p1, p2, p3⟩ := h2.one hok2
        have h3 := ih false (slice B a (ik a).to) (iv (ik a).to).to (Nat.le_trans hl (Nat.le_trans h1.lo h2.lo)) h2.hi
        have e2 := h2.hi
        have e3 := h3.lo
        refine ⟨by dsimp only; omega, h3.hi, fun h => ?_, fun h => ?_⟩
        · have := h3.ok h
          simp only [List.length_append]
          omega
        · have := h3.no h
          simp only [List.length_append]
          omega
      · next hok2 =>
        have := h2.no (by simpa using hok2)
        have e3 := h2.lo
        refine ⟨by dsimp only; omega, h2.hi, fun h => (by cases h), fun _ => ?_⟩
        simp only [List.length_append]
        omega
    · exact h1.toBd
theorem length_bevs (d : Nat) (l : List Int) : ∀ i, (bevs d l i).length = l.length := by
  induction l with
  | nil => intro i; rfl
  | cons c r ih => intro i; unfold bevs; simp [ih]
theorem length_unotes (wh : Bool) (l : List Int) : ∀ u i, (unotes wh u l i).length ≤ l.length := by
  induction l with
  | nil => intro u i; exact Nat.le_refl _
  | cons c r ih =>
    intro u i
    unfold unotes
    have := ih (ustep u c) (i + 1)
    rw [List.length_append, List.length_cons]
    split
    · simp only [List.length_singleton]; omega
    · simp only [List.length_nil]; omega
theorem bd_body (item : Nat → Nat → Bool → Sc) (d : Nat) (m g : Int) (a : Nat) (ha : a ≤ B.length) (hi : ∀ a' key, a ≤ a' → a' ≤ B.length → BdI B a' (item a' (d + 1) key)) : Bd B a (scBody B item d m g a) := by
  unfold scBody
  split
  · dsimp only
    have hn : (if decide (g ≤ ((B.length - a : Nat) : Int)) = true then g.toNat else B.length - a) ≤ B.length - a := by
      split
      · next h => have := of_decide_eq_true h; omega
      · exact Nat.le_refl _
    generalize (if decide (g ≤ ((B.length - a : Nat) : Int)) = true then g.toNat else B.length - a) = n at *
    have hl : (slice B a (a + n)).length = n := by rw [length_slice (by omega)]; omega
    have h1 : (if m = 3 then unotes (decide (g ≤ ((B.length - a : Nat) : Int))) uq0 (slice B a (a + n)) a else []).length ≤ n := by
      split
      · have := length_unotes (decide (g ≤ ((B.length - a : Nat) : Int))) (slice B a (a + n)) uq0 a; omega
      · exact Nat.zero_le _
    have h2 : (bevs d (slice B a (a + n)) a).length = n := by rw [length_bevs, hl]
    exact ⟨by dsimp only; omega, by dsimp only; omega, fun _ => ⟨by dsimp only; omega, by dsimp only; omega⟩, fun _ => ⟨by dsimp only; omega, by dsimp only; omega⟩⟩
  · split
    · exact bd_many a _ (fun a' h h' => hi a' false h h') _ a (Nat.le_refl _) ha
    · split
      · exact bd_pairs a _ _ (fun a' h h' => hi a' true h h') (fun a' h h' => hi a' false h h') _ _ _ a (Nat.le_refl _) ha
      · exact ⟨Nat.le_refl _, ha, fun _ => ⟨Nat.zero_le _, Nat.zero_le _⟩, fun h => by cases h⟩
theorem hwid_le (i : Int) : hwid i ≤ 8 ∧ 0 ≤ hwid i := ⟨(hwid_range i).2, (hwid_range i).1⟩
/-- How many bytes a head has. -/
theorem hread_many (L : List Int) : 0 ≤ (hread L).many ∧ (hread L).many ≤ L.length := by
  unfold hread
  split
  · simp [hnone]
  · split
    · simp [hnone]
    · split
      · dsimp only; omega
      · split
        · simp [hnone]
        · next hl =>
          have := hwid_le (L.getD 0 0 % 32)
          split
          · simp [hnone]
          · unfold hlong; dsimp only; omega
theorem bd_inner (item : Nat → Nat → Bool → Sc) (a d : Nat) (ha : a ≤ B.length) (hi : ∀ a' key, a < a' → a' ≤ B.length → BdI B a' (item a' (d + 1) key)) :
    a ≤ (scInner B item a d).to ∧ (scInner B item a d).to ≤ B.length ∧ ((scInner B item a d).ok = true → a < (scInner B item a d).to ∧ (scInner B item a d).notes.length + 5 ≤ 6 * ((scInner B item a d).to - a) ∧ (scInner B item a d).evs.length + 5 ≤ 6 * ((scInner B item a d).to - a)) ∧
    ((scInner B item a d).ok = false → (scInner B item a d).notes.length ≤ 6 * (B.length - a) + 1 ∧ (scInner B item a d).evs.length ≤ 6 * (B.length - a) + 1) := by
  unfold scInner
  dsimp only
  have hm := hread_many (B.drop a)
  rw [List.length_drop] at hm
  generalize hread (B.drop a) = r at *
  split
  · exact ⟨Nat.le_refl _, ha, fun h => (by cases h), fun _ => ⟨Nat.zero_le _, Nat.zero_le _⟩⟩
  · have hnn : (if r.e = 0 then ([] : List Note) else [(a + r.place.toNat, r.e)]).length ≤ 1 := by split <;> simp
    generalize (if r.e = 0 then ([] : List Note) else [(a + r.place.toNat, r.e)]) = nn at *
    split
    · exact ⟨Nat.le_refl _, ha, fun h => (by cases h), fun _ => ⟨by dsimp only; omega, Nat.zero_le _⟩⟩
    · next h0 =>
      have hb := bd_body (B := B) item d r.major r.arg (a + r.many.toNat) (by omega) (fun a' key h h' => hi a' key (by omega) h')
      have h1 := hb.lo
      have h2 := hb.hi
      refine ⟨by dsimp only; omega, h2, fun h => ?_, fun h => ?_⟩
      · have := hb.ok h
        simp only [List.length_append, List.length_cons]
        omega
      · have := hb.no h
        simp only [List.length_append, List.length_cons]
        omega
theorem bd_item (D K : Nat) (f : Nat) : ∀ (a d : Nat) (key : Bool), a ≤ B.length → B.length - a < f → BdI B a (scItem B D K f a d key) := by
  induction f with
  | zero => intro a d key ha h; omega
  | succ f ih =>
    intro a d key ha hf
    obtain ⟨h1, h2, h3, h4⟩ := bd_inner (scItem B D K f) a d ha (fun a' key h h' => ih a' (d + 1) key h' (by omega))
    unfold scItem
    dsimp only
    generalize scInner B (scItem B D K f) a d = r at *
    have n1 : (if D < d ∧ a < B.length then [((a, 3) : Note)] else []).length ≤ 1 := by split <;> simp
    have n2 : (if key = true ∧ K < (if r.ok = true then r.to else B.length) - a then [((a + K, 4) : Note)] else []).length ≤ 1 := by
      by_cases h : key = true ∧ K < (if r.ok = true then r.to else B.length) - a
      · rw [if_pos h]; exact Nat.le_refl _
      · rw [if_neg h]; exact Nat.zero_le _
    generalize (if D < d ∧ a < B.length then [((a, 3) : Note)] else []) = l1 at *
    generalize (if key = true ∧ K < (if r.ok = true then r.to else B.length) - a then [((a + K, 4) : Note)] else []) = l2 at *
    have n3 : (if r.ok = true then [endEv key d r.to] else []).length ≤ 1 := by cases r.ok <;> simp
    generalize (if r.ok = true then [endEv key d r.to] else []) = l3 at *
    refine ⟨⟨h1, h2, fun h => ?_, fun h => ?_⟩, fun h => ?_⟩
    · have := h3 h
      simp only [List.length_append]
      omega
    · have := h4 h
      simp only [List.length_append]
      omega
    · have := h3 h
      simp only [List.length_append]
      omega
end
end Go.Proofs.Ytchhbcmkhbfpoaa

/- The document's scan (layer 14): an event is added; an item. -/
namespace Go.Proofs.Ytchhbcmkhbfpoaa
open Go.RowKit

def ev0 : Value := .agg #[.int .i64 0, .int .i64 0, .int .i64 0, .int .i64 0, .int .i64 0, .int .u64 0, .int .u8 0]
theorem ev_info : (Try.prog.info? 48).map (fun i => (i.zero, i.size, i.bytes)) = some (some ev0, 7, 56) := by kernel_rfl
theorem ev_zero : ∀ w, (zeroValue 48).run Try.prog w = .ok ev0 w := (zero_of_info (n := 7) (by kernel_rfl)).1
theorem ev_one (e : AEv) : ∀ u ∈ e.cells, u.oneCell' = true := fun u hu => by
  simp [AEv.cells] at hu
  rcases hu with rfl | rfl | rfl | rfl | rfl | rfl | rfl <;> rfl
theorem own_far {w : World} {B g t' c n : Nat} {t : TypeId} {cs0 : Array Value} {v u : Value} {cs : List Value} {i : Nat} (ho : w.ownsRow B t c v n cs) (hb : Blk w g t' cs0) (ht : t ≠ t') : (w.setCell ⟨g, i, none⟩ u).ownsRow B t c v n cs := by
  rcases ho with ⟨h0, h1⟩
  refine ⟨h0, ?_⟩
  rcases h1 with h1 | ⟨g', cp, cur, hv, hb', hh, r⟩
  · exact .inl h1
  · have hne : g' ≠ g := fun e => by
      subst e
      have := hh.symm.trans hb
      injection this with this
      injection this with _ h2 _
      exact ht h2
    exact .inr ⟨g', cp, cur, hv, hb', by rw [Below.heap_setCell _ _ _ g' hne]; exact hh, r⟩
/-- An event is told. -/
theorem ev_add {w : World} {B g : Nat} {A : Option Addr} {cap : Nat} {L : List Int} {d k s : Int} {N : List Note} {E : List AEv} {vA vE vV : Value} (h : SnV w B g A cap L d k s N E vA vE vV) (hB : B ≤ w.heap.size) (hE : E.length ≤ 1000000000) (e : AEv) :
    ∃ A' n' c' w', (Builtin.append_ #[44, 44] 44 #[vV, .slice (some ⟨w.heap.size, 0, none⟩) 1 1]).run Try.prog (w.alloc (.cells e.cells.toArray 48)) = .ok (.slice A' n' c') w' ∧ w'.cell? ⟨g, 6, none⟩ = some vV ∧ w'.frozen? ⟨g, 6, none⟩ = false ∧
      Sn (w'.setCell ⟨g, 6, none⟩ (.slice A' n' c')) B g A cap L d k s N (E ++ [e]) ∧ Below B w (w'.setCell ⟨g, 6, none⟩ (.slice A' n' c')) := by
  have S := below_alloc w (.cells e.cells.toArray 48)
  have h1 := h.on S hB
  have hb : Blk (w.alloc (.cells e.cells.toArray 48)) w.heap.size 48 e.cells.toArray := Blk.fresh _ _ _
  obtain ⟨v', w', r1, r2, r3, r4, _⟩ := oc_append (P := Try.prog) (t := 44) (ty := 44) (e := 48) (s := 7) (bytes := 56) (z := ev0) (m := 1) (c := 1) (news := e.cells) (a := ⟨w.heap.size, 0, none⟩) (by kernel_rfl) ev_info rfl (by decide) (by decide) h1.ev rfl
    (fun j u hj => by
      show (w.alloc (.cells e.cells.toArray 48)).cell? ((⟨w.heap.size, 0, none⟩ : Addr).add j) = some u
      have : (⟨w.heap.size, 0, none⟩ : Addr).add j = ⟨w.heap.size, j, none⟩ := by simp [Addr.add]; exact fun h => h.symm
      rw [this, hb.cell, List.getElem?_toArray]; exact hj) (ev_one e) (by omega) (Nat.le_trans hB S.size)
  obtain ⟨A', c', rfl, _⟩ := oc_form r2
  have hbl := blk_grown h1.blk h1.ev (by decide) r4
  have hge := h.ge
  refine ⟨A', _, c', w', r1, hbl.cell 6, hbl.free 6, ⟨vA, vE, _, ⟨hbl.put 6 _, own_far (h1.at_.kept r4 (own_diff h1.at_ h1.ev (by decide))) hbl (by decide), own_far (h1.er.kept r4 (own_diff h1.er h1.ev (by decide))) hbl (by decide), ?_, h.ne, ?_, hge⟩⟩, ((S.mono hB).trans r3).setCell hge _⟩
  · have e1 : evCells (E ++ [e]) = evCells E ++ e.cells := by rw [evCells_append]; simp [evCells]
    rw [List.length_append, List.length_singleton, e1]
    exact own_far r2 hbl (by decide)
  · exact (h1.rd.below r3).keep fun q hq => ((Below.refl B w').setCell (p := ⟨g, 6, none⟩) hge _).cell hq

/-- What a scan's function answers. -/
def ScP (B g : Nat) (A : Option Addr) (cap : Nat) (L : List Int) (d k s : Int) (N : List Note) (E : List AEv) (r : Sc) (w : World) (e : Ending) (w' : World) : Prop :=
  e = .returned (.tuple #[.int .i64 (r.to : Int), .bool r.ok]) ∧ Sn w' B g A cap L d k s (N ++ r.notes) (E ++ r.evs) ∧ Below B w w'
/-- inner's contract, at all places from a on. -/
def InnerC (B g : Nat) (A : Option Addr) (cap : Nat) (L : List Int) (D K : Nat) (s : Int) (item : Nat → Nat → Bool → Sc) (a dp : Nat) : Prop :=
  ∀ (w : World) (N : List Note) (E : List AEv), Sn w B g A cap L D K s N E → B ≤ w.heap.size → N.length + 6 * (L.length - a) ≤ 890001 → E.length + 6 * (L.length - a) ≤ 890001 →
    Calls Try.prog 35 #[.pointer (some ⟨g, 0, none⟩), .int .i64 (a : Int), .int .i64 (dp : Int)] w fun e w' => ScP B g A cap L D K s N E (scInner L item a dp) w e w'
def itemOf (L : List Int) (D K : Nat) (r : Sc) (a d : Nat) (key : Bool) : Sc :=
  ⟨(if D < d ∧ a < L.length then [(a, 3)] else []) ++ (r.notes ++ (if key ∧ K < (if r.ok then r.to else L.length) - a then [(a + K, 4)] else [])), r.evs ++ (if r.ok then [endEv key d r.to] else []), r.to, r.ok⟩
end Go.Proofs.Ytchhbcmkhbfpoaa
