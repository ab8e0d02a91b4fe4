
/- Package order: Reset, Byte, End. -/
import Derived.Test.YtlipjaopbhdbeaaOrdB
import Derived.Deep.RegionLaw
namespace Go.Proofs.Ytlipjaopbhdbeaa
open Go.RowKit

section
variable {g p q m : Nat} {w w' : World} {a b : List Int} {e : Bool}
/-- What a key's bytes come to. -/
theorem Ks.set (h : Ks w g p q m a b e) (ho : Only g w w') {p' q' : Nat} {a' b' : List Int} {e' : Bool} (hb : Blk w' g 57 #[.slice (some ⟨p', 0, none⟩) a'.length m, .slice (some ⟨q', 0, none⟩) b'.length m, .int .i64 m, .bool e'])
    (hq : (p' = p ∧ q' = q ∧ a' = a ∧ (b' = b ∨ b' = [])) ∨ (p' = q ∧ q' = p ∧ a' = b ∧ b' = [])) : Ks w' g p' q' m a' b' e' := by
  have hp : w'.heap[p]? = w.heap[p]? := ho.block _ h.lp (fun e => h.pg (by injection e))
  have hq' : w'.heap[q]? = w.heap[q]? := ho.block _ h.lq (fun e => h.qg (by injection e))
  have hs := ho.size
  have lp := h.lp
  have lq := h.lq
  rcases hq with ⟨rfl, rfl, rfl, rfl | rfl⟩ | ⟨rfl, rfl, rfl, rfl⟩
  · exact ⟨hb, h.pq, h.pg, h.qg, h.ow1.on1 hp, h.ow2.on1 hq', by omega, by omega, h.le1, h.le2, h.lem⟩
  · exact ⟨hb, h.pq, h.pg, h.qg, h.ow1.on1 hp, (h.ow2.on1 hq').zero, by omega, by omega, h.le1, Nat.zero_le _, h.lem⟩
  · exact ⟨hb, fun e => h.pq e.symm, h.qg, h.pg, h.ow2.on1 hq', (h.ow1.on1 hp).zero, by omega, by omega, h.le2, Nat.zero_le _, h.lem⟩
end

set_option maxRecDepth 100000 in
theorem order_Reset (w : World) (g p q m : Nat) (a b : List Int) (e : Bool) (h : Ks w g p q m a b e) :
    Calls Try.prog 19 #[.pointer (some ⟨g, 0, none⟩)] w fun r w' => r = .returned (.tuple #[]) ∧ Ks w' g p q m a [] false ∧ Tri g p q w w' := by
  have H := Lib.hid h
  have hb3 := h.blk.put 3 (.bool false)
  have ho := ((Only.refl g w).put 3 (.bool false))
  obtain ⟨c0, c1, c2, c3, hf⟩ := h.cells
  have hf3 := hf 3
  have e1 := hb3.cell 1
  have e2 := hb3.free 1
  have H1 := Lib.hid hb3
  have HO := Lib.hid ho
  simp at e1
  clear h hf hb3 ho c0 c2 c1
  go_enter Try.func19, Try.ntmps19
  go_wp2_with fail
  generalize w.setCell ⟨g, 3, none⟩ (.bool false) = w1 at *
  go_region
  go_wp2_with fail
  go_end0
  exact ⟨rfl, H.out.set ((HO.out.drew).put 1 _) (H1.out.drew.put 1 _) (.inl ⟨rfl, rfl, rfl, .inr rfl⟩), .ofG ((HO.out.drew).put 1 _)⟩

set_option maxRecDepth 100000 in
theorem order_Byte_full (w : World) (g p q m : Nat) (a b : List Int) (e : Bool) (c : Int) (h : Ks w g p q m a b e) (hl : b.length = m) :
    Calls Try.prog 15 #[.pointer (some ⟨g, 0, none⟩), .int .u8 c] w fun r w' => r = .returned (.bool false) ∧ Ks w' g p q m a b e ∧ Tri g p q w w' := by
  have H := Lib.hid h
  obtain ⟨c0, c1, c2, c3, hf⟩ := h.cells
  rw [hl] at c1
  clear h hf c0 c3
  go_enter Try.func15, Try.ntmps15
  go_wp2_with fail
  go_quiet (fail)
  go_wp2_with fail
  go_ret
  exact ⟨rfl, H.out.on (below_drawnN (Below.refl _ _) _), .ofBelow (below_drawnN (Below.refl _ _) _)⟩

set_option maxRecDepth 100000 in
theorem order_Byte (w : World) (g p q m : Nat) (a b : List Int) (e : Bool) (c : Int) (h : Ks w g p q m a b e) (hl : b.length < m) :
    Calls Try.prog 15 #[.pointer (some ⟨g, 0, none⟩), .int .u8 c] w fun r w' => r = .returned (.bool true) ∧ Ks w' g p q m a (b ++ [c]) e ∧ Tri g p q w w' := by
  have H := Lib.hid h
  obtain ⟨c0, c1, c2, c3, hf⟩ := h.cells
  have hlt : ¬ (m : Int) ≤ (b.length : Int) := by omega
  obtain ⟨i0, hi0, hz0, hz1, hz2⟩ := info_parts info5
  clear h hf c0 c3
  go_enter Try.func15, Try.ntmps15
  go_wp2_with fail
  go_quiet (fail)
  go_wp2_with fail
  have hB : Below w.heap.size w (w.drewN nq).drew := below_drawn (below_drawnN (Below.refl _ _) _)
  have hk := H.out.on hB
  have HT0 := Lib.hid (Tri.ofBelow (g := g) (p := p) (q := q) hB)
  clear hB c1 c2 H
  have bq : Blk (((w.drewN nq).drew).alloc (.cells #[.int .u8 c] 5)) (w.drewN nq).heap.size 5 (nums .u8 [c]) := Blk.fresh _ _ _
  have hA : Below (w.drewN nq).heap.size (w.drewN nq).drew (((w.drewN nq).drew).alloc (.cells #[.int .u8 c] 5)) := below_alloc (w.drewN nq).drew _
  have hkq := hk.on hA
  have HT1 := Lib.hid (HT0.out.trans (Tri.ofBelow hA))
  clear hA HT0
  obtain ⟨wq, hwq⟩ : ∃ wq, ((w.drewN nq).drew).alloc (.cells #[.int .u8 c] 5) = wq := ⟨_, rfl⟩
  rw [hwq] at bq hkq HT1
  obtain ⟨w3, hr, ho, hg⟩ := run_append_fits (P := Try.prog) wq 0 28 28 5 i0 1 Try.underlying28 hi0 hz1 q b.length m (b.map (Value.int .u8)) hkq.ow2 ⟨(w.drewN nq).heap.size, 0, none⟩ 1 1 [.int .u8 c] rfl (fun j u hj => by
    cases j with
    | zero => injection hj with hj; subst hj; exact bq.cell 0
    | succ j => cases hj) (by simp [Value.oneCell']) (by omega)
  have HG3 := Lib.hid (show Only q wq w3 from hg)
  have HO3 : Hid (Own w3 0 .u8 5 (.slice (some ⟨q, 0, none⟩) (b ++ [c]).length m) (b ++ [c])) := by
    show Own _ _ _ _ _ _
    unfold Own
    rw [List.length_append, List.map_append]
    exact ho
  have hb3 : Blk w3 g 57 #[.slice (some ⟨p, 0, none⟩) a.length m, .slice (some ⟨q, 0, none⟩) b.length m, .int .i64 m, .bool e] := hkq.blk.only HG3.out (fun e => hkq.qg e.symm)
  have c1 := hk.blk.cell 1
  have cq := hkq.blk.cell 1
  have c3 := hb3.cell 1
  have f3 := hb3.free 1
  simp only [List.getElem?_toArray, List.getElem?_cons_zero, List.getElem?_cons_succ] at c1 c3 cq
  have HR := Lib.hid hr
  have HB3 := Lib.hid hb3
  have HK := Lib.hid hkq
  have HL := Lib.hid hl
  clear hr ho hg hb3 hkq hk bq hi0 hz0 hz1 hz2 hlt hl
  generalize (w.drewN nq) = wn at *
  go_region_law (refine step_append_run rfl rfl HR.out rfl rfl ?_)
  all_goals
    go_wp2_with fail
    go_ret
    refine ⟨rfl, ?_, ?_⟩
    · have h4 := HK.out
      have n1 : g ≠ q := fun e => h4.qg e.symm
      refine ⟨by rw [List.length_append]; exact HB3.out.put 1 _, h4.pq, h4.pg, h4.qg, (h4.ow1.on1 (HG3.out.block _ h4.lp (fun e => h4.pq (by injection e)))).on1 (Below.heap_setCell w3 _ _ p h4.pg), HO3.out.on1 (Below.heap_setCell w3 _ _ q h4.qg), ?_, ?_, h4.le1, by have := HL.out; simp; omega, h4.lem⟩
      · have := h4.lp; have := HG3.out.size; simp; omega
      · have := h4.lq; have := HG3.out.size; simp; omega
    · exact HT1.out.trans ((Tri.ofQ HG3.out).trans (.ofG ((Only.refl g w3).put 1 _)))

set_option maxRecDepth 100000 in
/-- The second half of End: the lists change places. -/
theorem order_End (w : World) (g p q m : Nat) (a b : List Int) (e : Bool) (h : Ks w g p q m a b e) (ha : ByteL a) (hb : ByteL b) :
    Calls Try.prog 17 #[.pointer (some ⟨g, 0, none⟩)] w fun r w' => r = .returned (.bool (!e || ahead a b)) ∧ Ks w' g q p m b [] true ∧ Tri g p q w w' := by
  have HA := Lib.hid (fun n => order_Ahead (w.drewN n) _ _ m m a b (h.on (below_drawnN (Below.refl _ _) n)).rd1 (h.on (below_drawnN (Below.refl _ _) n)).rd2 ha hb)
  have H := Lib.hid h
  obtain ⟨c0, c1, c2, c3, hf⟩ := h.cells
  have hf3 := hf 3
  generalize ahead a b = z at *
  clear h hf ha hb
  cases e
  · go_enter Try.func17, Try.ntmps17
    go_wp2_with fail
    go_quiet (fail)
    go_wp2_with fail
    have hb3 := H.out.blk.put 3 (.bool true)
    have hB : Below w.heap.size w (w.drewN nq) := below_drawnN (Below.refl _ _) _
    have hk := H.out.on hB
    have HT := Lib.hid (Tri.ofBelow (g := g) (p := p) (q := q) hB)
    clear hB c0 c1 c2 c3 hf3 hb3 H
    generalize w.drewN nq = wn at *
    have hb3 := hk.blk.put 3 (.bool true)
    have ho := (Only.refl g wn).put 3 (.bool true)
    have HK := Lib.hid hk
    generalize wn.setCell ⟨g, 3, none⟩ (.bool true) = w1 at *
    have e0 := hb3.cell 0
    have e1 := hb3.cell 1
    have f0 := hb3.free 0
    have f1 := hb3.free 1
    simp only [List.getElem?_toArray, List.getElem?_cons_zero, List.getElem?_cons_succ, List.setIfInBounds_toArray, List.set_cons_succ, List.set_cons_zero] at e0 e1
    have H3 := Lib.hid hb3
    have HO := Lib.hid ho
    clear hb3 ho hk
    go_region
    all_goals
      go_wp2_with fail
      go_ret
      exact ⟨rfl, HK.out.set (((HO.out.put 0 _).put 1 _).drew) (((H3.out.put 0 _).put 1 _).drew) (.inr ⟨rfl, rfl, rfl, rfl⟩), HT.out.trans (.ofG ((HO.out.put 0 _).put 1 _).drew)⟩
  · go_enter Try.func17, Try.ntmps17
    go_wp2_with fail
    go_quiet ((with_reducible exact Calls.quiet_of_same (HA.out _)))
    go_wp2_with fail
    have hb3 := H.out.blk.put 3 (.bool true)
    have hB : Below w.heap.size w (w.drewN nq) := below_drawnN (Below.refl _ _) _
    have hk := H.out.on hB
    have HT := Lib.hid (Tri.ofBelow (g := g) (p := p) (q := q) hB)
    clear hB c0 c1 c2 c3 hf3 hb3 H
    generalize w.drewN nq = wn at *
    have hb3 := hk.blk.put 3 (.bool true)
    have ho := (Only.refl g wn).put 3 (.bool true)
    have HK := Lib.hid hk
    generalize wn.setCell ⟨g, 3, none⟩ (.bool true) = w1 at *
    have e0 := hb3.cell 0
    have e1 := hb3.cell 1
    have f0 := hb3.free 0
    have f1 := hb3.free 1
    simp only [List.getElem?_toArray, List.getElem?_cons_zero, List.getElem?_cons_succ, List.setIfInBounds_toArray, List.set_cons_succ, List.set_cons_zero] at e0 e1
    have H3 := Lib.hid hb3
    have HO := Lib.hid ho
    clear hb3 ho hk
    go_region
    all_goals
      go_wp2_with fail
      go_ret
      exact ⟨rfl, HK.out.set (((HO.out.put 0 _).put 1 _).drew) (((H3.out.put 0 _).put 1 _).drew) (.inr ⟨rfl, rfl, rfl, rfl⟩), HT.out.trans (.ofG ((HO.out.put 0 _).put 1 _).drew)⟩
end Go.Proofs.Ytlipjaopbhdbeaa
