/- Package denote: the rule of a node by itself. -/
import Derived.Test.YtjelgoeamaejmaaGreatKXAG
namespace Go.Proofs.YtjelgoeamaejmaaGreat
open Go.RowKit

/-- A node of a number, of bytes, of a text. -/
def lone (k : Int) : Prop := k = 1 ∨ k = 2 ∨ k = 3
theorem den_alone (k lo hi : Int) (v : It) (l : List Int) (f : List Fl) (p : Pl) (t : It) (A : Option Addr) (cap : Nat) (w : World) (hk : lone k) (hn : 0 ≤ t.n) :
    Calls Tryz.prog 62 #[vN ⟨k, lo, hi, v, l, f⟩ p, vI t A cap] w fun e w' => e = .returned (.bool (loneR k lo hi t)) ∧ Below w.heap.size w w' := by
  rcases hk with rfl | rfl | rfl
  · exact den_alone1 lo hi v l f p t A cap w hn
  · exact den_alone2 lo hi v l f p t A cap w
  · exact den_alone3 lo hi v l f p t A cap w
set_option maxRecDepth 100000 in
set_option maxHeartbeats 1000000 in
/-- The rule, called. -/
theorem den_rule5 (k lo hi : Int) (v : It) (l : List Int) (f : List Fl) (p : Pl) (g : Nat) (q : Pt) (a : Int) (w : World) (hk : lone k) (hn : 0 ≤ q.x.n) (hb : Blk w g 47 (nc ⟨k, lo, hi, v, l, f⟩ p)) :
    Calls Tryz.prog 61 (#[vP q, .int .i64 a] ++ #[.pointer (some ⟨g, 0, none⟩)]) w fun e w' => e = .returned (.bool (loneR k lo hi q.x)) ∧ Below w.heap.size w w' := by
  obtain ⟨w1, hw1, b1, S⟩ := iblk1 w 77 #[.int .i64 q.x.k, .int .u64 q.x.n, .string q.x.s, .slice q.A q.x.l.length q.cap, .int .i64 q.it]
  have q0 := b1.cell 0
  have q1 := b1.cell 1
  have q2 := b1.cell 2
  have q3 := b1.cell 3
  have q4 := b1.cell 4
  have hb1 := hb.on S
  unfold nc at hb1
  obtain ⟨p0, p1, p2, p3, p4, p5, p6, p7, p8⟩ := nblk hb1
  have HA := Lib.hid (den_alone k lo hi v l f p q.x q.A q.cap w1 hk hn)
  have HS := Lib.hid S
  unfold vN vI at HA
  unfold vP
  dsimp only at *
  generalize loneR k lo hi q.x = res at *
  clear hb1 b1 S hb hk hn
  show Calls Tryz.prog 61 #[.agg #[.int .i64 q.x.k, .int .u64 q.x.n, .string q.x.s, .slice q.A q.x.l.length q.cap, .int .i64 q.it], .int .i64 a, .pointer (some ⟨g, 0, none⟩)] w _
  go_enter Tryz.func61, Tryz.ntmps61
  go_wp2_with (first
    | (go_at_call 62; refine HA.out.mono ?_; rintro e w2 ⟨rfl, hb2⟩; have HB2 := Lib.hid hb2; clear hb2)
    | fail)
  go_ret
  exact ⟨rfl, HS.out.trans (HB2.out.mono HS.out.size)⟩
set_option maxRecDepth 100000 in
set_option maxHeartbeats 1000000 in
/-- .. and made. -/
theorem den_ruleOf5 (k lo hi : Int) (v : It) (l : List Int) (f : List Fl) (p : Pl) (cm : Nat) (w : World) (hk : lone k) :
    Calls Tryz.prog 35 #[vN ⟨k, lo, hi, v, l, f⟩ p, standsV cm] w fun e w' => e = .returned (.func (.func 61) #[] #[.pointer (some ⟨w.heap.size, 0, none⟩)]) ∧ Blk w' w.heap.size 47 (nc ⟨k, lo, hi, v, l, f⟩ p) ∧ w.heap.size < w'.heap.size ∧ Below w.heap.size w w' := by
  have b1 := (Blk.fresh w 47 (nc ⟨k, lo, hi, v, l, f⟩ p)).alloc (.cells #[standsV cm] 59)
  have S : Below w.heap.size w ((w.alloc (.cells (nc ⟨k, lo, hi, v, l, f⟩ p) 47)).alloc (.cells #[standsV cm] 59)) := (below_alloc w _).alloc (by simp) _
  obtain ⟨w1, hw1⟩ : ∃ w1, (w.alloc (.cells (nc ⟨k, lo, hi, v, l, f⟩ p) 47)).alloc (.cells #[standsV cm] 59) = w1 := ⟨_, rfl⟩
  rw [hw1] at b1 S
  have HS := Lib.hid S
  have HB := Lib.hid b1
  unfold nc at b1 hw1
  obtain ⟨p0, p1, p2, p3, p4, p5, p6, p7, p8⟩ := nblk b1
  unfold vN
  unfold standsV at hw1 ⊢
  dsimp only at *
  have h6 : ¬ k = 6 := by rcases hk with rfl | rfl | rfl <;> decide
  have h7 : ¬ k = 7 := by rcases hk with rfl | rfl | rfl <;> decide
  have h8 : ¬ k = 8 := by rcases hk with rfl | rfl | rfl <;> decide
  have h9 : ¬ k = 9 := by rcases hk with rfl | rfl | rfl <;> decide
  have h10 : ¬ k = 10 := by rcases hk with rfl | rfl | rfl <;> decide
  clear b1 S hk
  go_enter Tryz.func35, Tryz.ntmps35
  go_wp2_with fail
  go_ret
  exact ⟨rfl, HB.out, HB.out.lt, HS.out⟩
/-- A node by itself, as the teller meets it. -/
theorem rule_lone {w0 : World} {xs : List Nd} {ps : List Pt} {node : Nat} {x : Nd} (p : Pl) (W : World) (B cm g n m : Nat) (R : Nat → Nat → Bool) (hk : lone x.k) (hr : ∀ a q, ps[a]? = some q → R node a = loneR x.k x.lo x.hi q.x ∧ 0 ≤ q.x.n) :
    Calls Tryz.prog 35 #[vN x p, standsV cm] W fun e W' => ∃ fid lb, e = .returned (.func (.func fid) #[] lb) ∧ (fid = 61 ∨ fid = 58 ∨ fid = 76) ∧ Rule w0 W W' B cm g n m node R ps fid lb ∧ Below W.heap.size W W' := by
  obtain ⟨k, lo, hi, v, l, f⟩ := x
  refine (den_ruleOf5 k lo hi v l f p cm W hk).mono ?_
  rintro e W' ⟨rfl, hb, hlt, hS⟩
  refine ⟨_, _, rfl, .inl rfl, ⟨fun W2 H a q hq _ _ hkeep => ?_⟩, hS⟩
  obtain ⟨h1, h2⟩ := hr a q hq
  rw [h1]
  exact den_rule5 k lo hi v l f p W.heap.size q a W2 hk h2 ((hkeep W.heap.size (Nat.le_refl _) hlt).trans hb)
end Go.Proofs.YtjelgoeamaejmaaGreat
