/- Layer 18: the rule of a choice of the nodes 1 and 2. -/
import Derived.Test.YtjelgoeamaejmaaGreatKXAS
namespace Go.Proofs.YtjelgoeamaejmaaGreat
open Go.RowKit

theorem own_base2 {w : World} {B B' : Nat} {k : IntKind} {e : TypeId} {v : Value} {zs : List Int} (h : Own w B k e v zs) (hB : B' ≤ B) : Own w B' k e v zs :=
  ⟨h.1, h.2.imp id fun ⟨g, cap, cur, h1, h2, h3⟩ => ⟨g, cap, cur, h1, Nat.le_trans hB h2, h3⟩⟩
def chN : Nd := ⟨10, 0, 0, zIt, [1, 2], []⟩
set_option maxRecDepth 100000 in
set_option maxHeartbeats 4000000 in
theorem den_ruleOf4 (p : Pl) (cm n : Nat) (w : World) (hn : n ≤ w.heap.size) (hx : NdB w n chN p) :
    Calls Tryz.prog 35 #[vN chN p, standsV cm] w fun e w' => ∃ gn gs gl cap, e = .returned (.func (.func 58) #[] #[.pointer (some ⟨gn, 0, none⟩), .pointer (some ⟨gs, 0, none⟩)]) ∧ Blk w' gn 35 #[.slice (some ⟨gl, 0, none⟩) 2 cap] ∧ Own w' w.heap.size .i64 3 (.slice (some ⟨gl, 0, none⟩) 2 cap) [1, 2] ∧ Blk w' gs 59 #[standsV cm] ∧ w.heap.size ≤ gn ∧ w.heap.size ≤ gs ∧ Below w.heap.size w w' := by
  obtain ⟨w1, hw1, b1, b2, S⟩ := two_boxes w 47 59 (nc chN p) #[standsV cm]
  have HN := Lib.hid (sch_Named chN p n w1 (Nat.le_trans hn S.size) (hx.keep (S.mono hn)) (by decide))
  have HS := Lib.hid S
  have HB2 := Lib.hid b2
  rw [show namedN chN = [1, 2] from rfl] at HN
  unfold nc chN at b1 hw1
  obtain ⟨p0, p1, p2, p3, p4, p5, p6, p7, p8⟩ := nblk b1
  unfold vN chN at HN ⊢
  unfold standsV at hw1 ⊢
  dsimp only at *
  rw [show ([1, 2] : List Int).length = 2 from rfl, show ([] : List Fl).length = 0 from rfl] at hw1 HN
  rw [show ([1, 2] : List Int).length = 2 from rfl] at p7
  rw [show ([] : List Fl).length = 0 from rfl] at p8
  clear b1 b2 S hx
  go_enter Tryz.func35, Tryz.ntmps35
  go_wp2_with (first
    | (go_at_call 44; refine HN.out.mono ?_; rintro e w2 ⟨⟨v, rfl, hO⟩, hb⟩; obtain ⟨gl, cap, rfl⟩ := hO.head (by decide); have hgl := hO.lt (by decide); have HO := Lib.hid (hO.alloc (.cells #[.slice (some ⟨gl, 0, none⟩) 2 cap] 35)); have HB := Lib.hid (hb.trans ((below_alloc w2 (.cells #[.slice (some ⟨gl, 0, none⟩) 2 cap] 35)).mono hb.size)); have BN := Lib.hid (Blk.fresh w2 35 #[.slice (some ⟨gl, 0, none⟩) 2 cap]); have hge := hb.size; clear hO hb)
    | (go_at_call 56; refine (den_sort gl cap _ (two12_own HO.out)).mono ?_; rintro e w3 ⟨rfl, hb⟩; have HO3 := Lib.hid (HO.out.below hb); have HB3 := Lib.hid (HB.out.trans (hb.mono HB.out.size)); have BN3 := Lib.hid (BN.out.on hb); have n3 := sblk BN3.out; clear hb)
    | (go_at_call 57; refine (den_compact gl cap _ (two12_own HO3.out)).mono ?_; rintro e w4 ⟨rfl, hb⟩; have HO4 := Lib.hid (HO3.out.below hb); have HB4 := Lib.hid (HB3.out.trans (hb.mono HB3.out.size)); have BN4 := Lib.hid (BN3.out.on hb); have n4 := sblk BN4.out; have f4 := BN4.out.free 0; clear hb)
    | fail)
  go_ret
  have BN5 : Blk (w4.setCell ⟨w2.heap.size, 0, none⟩ (.slice (some ⟨gl, 0, none⟩) 2 cap)) w2.heap.size 35 #[.slice (some ⟨gl, 0, none⟩) 2 cap] := by
    have h := BN4.out.put 0 (.slice (some ⟨gl, 0, none⟩) 2 cap)
    simpa using h
  have K : ∀ i, (w4.setCell ⟨w2.heap.size, 0, none⟩ (.slice (some ⟨gl, 0, none⟩) 2 cap)).heap[i]? = w4.heap[i]? := fun i => by
    by_cases e : i = w2.heap.size
    · subst e; exact BN5.trans BN4.out.symm
    · exact Below.heap_setCell w4 _ _ i e
  have HB5 := HB4.out.setCell (p := ⟨w2.heap.size, 0, none⟩) hge (.slice (some ⟨gl, 0, none⟩) 2 cap)
  refine ⟨w2.heap.size, w.heap.size + 1, gl, cap, rfl, BN5, own_base2 (HO4.out.keep (fun i _ _ => K i)) HS.out.size, HB2.out.on HB5, Nat.le_trans HS.out.size hge, by omega, HS.out.trans (HB5.mono HS.out.size)⟩
def Rule4 (R : Nat → Nat → Bool) : Prop := ∀ a, R 0 a = (R 1 a || R 2 a)
/-- A choice of the nodes 1 and 2, as the teller meets it. -/
theorem rule_choice {w0 : World} {ps : List Pt} (p : Pl) (W : World) (B cm g n nb : Nat) (R : Nat → Nat → Bool) (hR : Rule4 R) (hnb : nb ≤ W.heap.size) (hx : NdB W nb chN p) (hn : 2 < n) :
    Calls Tryz.prog 35 #[vN chN p, standsV cm] W fun e W' => ∃ fid lb, e = .returned (.func (.func fid) #[] lb) ∧ (fid = 61 ∨ fid = 58 ∨ fid = 76) ∧ Rule w0 W W' B cm g n ps.length 0 R ps fid lb ∧ Below W.heap.size W W' := by
  refine (den_ruleOf4 p cm nb W hnb hx).mono ?_
  rintro e W' ⟨gn, gs, gl, cap, rfl, h1, h2, h3, hgn, hgs, hS⟩
  refine ⟨_, _, rfl, .inr (.inl rfl), ⟨fun W2 H a q hq hT _ hkeep => ?_⟩, hS⟩
  have ha := (List.getElem?_eq_some_iff.1 hq).1
  rw [hR a]
  exact den_rule4 q a gn gs W2 gl cap W.heap.size ((hkeep gn hgn h1.lt).trans h1) (h2.keep fun i hi hl => hkeep i hi hl) ((hkeep gs hgs h3.lt).trans h3) hT (Nat.le_refl _) hn ha
end Go.Proofs.YtjelgoeamaejmaaGreat
