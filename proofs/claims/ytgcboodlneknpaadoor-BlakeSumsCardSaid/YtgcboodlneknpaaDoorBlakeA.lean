
/- Package blake: one step of a round. -/
import Derived.Test.YtgcboodlneknpaaDoorTurn
import Derived.Test.YtgcboodlneknpaaDoorNum
import Derived.Test.YtgcboodlneknpaaDoorBlk
import Derived.StillTailTactics
import Derived.WalkSmall
namespace Go.Proofs.YtgcboodlneknpaaDoor
open Go.RowKit

def M64 : Int := 18446744073709551616
def In6 (l : List Int) : Prop := ∀ c ∈ l, 0 ≤ c ∧ c < 18446744073709551616
theorem In6.get {l : List Int} (h : In6 l) (k : Nat) : 0 ≤ l.getD k 0 ∧ l.getD k 0 < 18446744073709551616 := by
  by_cases hk : k < l.length
  · have : l.getD k 0 = l[k] := by simp [List.getD, hk]
    rw [this]; exact h _ (List.getElem_mem _)
  · have : l.getD k 0 = 0 := by simp [List.getD, List.getElem?_eq_none (Nat.le_of_not_lt hk)]
    rw [this]; decide
theorem In6.set {l : List Int} (h : In6 l) (k : Nat) {x : Int} (hx : 0 ≤ x ∧ x < 18446744073709551616) : In6 (l.set k x) := fun c hc => by
  rcases List.mem_or_eq_of_mem_set hc with h' | rfl
  · exact h c h'
  · exact hx
/-- Exclusive or of two numbers of 64 bits. -/
def xor6 (a b : Int) : Int := bits .xor .u64 a b
theorem xor6_range {a b : Int} (ha : 0 ≤ a ∧ a < 18446744073709551616) (hb : 0 ≤ b ∧ b < 18446744073709551616) : 0 ≤ xor6 a b ∧ xor6 a b < 18446744073709551616 := by
  unfold xor6
  rw [u64_xor _ _ ha.1 ha.2 hb.1 hb.2]
  refine ⟨Int.natCast_nonneg _, ?_⟩
  have := Nat.xor_lt_two_pow (n := 64) (x := a.toNat) (y := b.toNat) (by omega) (by omega)
  omega
/-- The tables. -/
def placesN : List Nat := [0, 4, 8, 12, 1, 5, 9, 13, 2, 6, 10, 14, 3, 7, 11, 15, 0, 5, 10, 15, 1, 6, 11, 12, 2, 7, 8, 13, 3, 4, 9, 14]
def pl (i j : Nat) : Nat := placesN.getD (i * 4 + j) 0
theorem pl_ok : ∀ i, i < 8 → (pl i 0 < 16 ∧ pl i 1 < 16 ∧ pl i 2 < 16 ∧ pl i 3 < 16) ∧ pl i 0 ≠ pl i 1 ∧ pl i 0 ≠ pl i 2 ∧ pl i 0 ≠ pl i 3 ∧ pl i 1 ≠ pl i 2 ∧ pl i 1 ≠ pl i 3 ∧ pl i 2 ≠ pl i 3 := by decide
/-- The four numbers behind a step: a, b, c, d. -/
structure Four where
  a : Int
  b : Int
  c : Int
  d : Int
def add6 (a b : Int) : Int := IntKind.u64.wrap (a + b)
def half (v : Four) (x : Int) (k l : Nat) : Four :=
  let a := add6 v.a (add6 v.b x)
  let d := turned 64 (xor6 v.d a) k
  let c := add6 v.c d
  ⟨a, turned 64 (xor6 v.b c) l, c, d⟩
def full (v : Four) (x y : Int) : Four := half (half v x 32 24) y 16 63
theorem wrap6_range (x : Int) : 0 ≤ IntKind.u64.wrap x ∧ IntKind.u64.wrap x < 18446744073709551616 := by
  rw [IntKind.wrap_u64]; omega
theorem turn6 (p q n : Int) (k : Nat) (hk : (n % 64).toNat = k) (hp : 0 ≤ p ∧ p < 18446744073709551616) (hq : 0 ≤ q ∧ q < 18446744073709551616) (w : World) :
    Calls Tryd.prog 29 #[.int .u64 (bits .xor .u64 p q), .int .i64 n] w fun e w' => ∃ r, e = .returned (.int .u64 r) ∧ Hid (turned 64 (xor6 p q) k = r) ∧ (0 ≤ r ∧ r < 18446744073709551616) ∧ w = w' := by
  have hx := xor6_range hp hq
  subst hk
  refine (Right64 (bits .xor .u64 p q) n hx.1 hx.2 w).mono ?_
  rintro e w' ⟨rfl, rfl⟩
  exact ⟨_, rfl, rfl, turned_range 64 _ _ (by omega) hx.1 hx.2, rfl⟩
def mixL (v : List Int) (a b c d : Nat) (x y : Int) : List Int :=
  let f := full ⟨v.getD a 0, v.getD b 0, v.getD c 0, v.getD d 0⟩ x y
  (((v.set a f.a).set b f.b).set c f.c).set d f.d

theorem blake_step (w : World) (gv : Nat) (vs : List Int) (i : Nat) (x y : Int) (hl : vs.length = 16) (hi : i < 8) (hv : In6 vs) 
    (hg : Blk w gv 49 (nums .u64 vs)) (T : ∀ k, k < 32 → w.cell? ⟨2, k, none⟩ = some (.int .u8 (placesN.getD k 0 : Nat))) :
    Calls Tryd.prog 26 #[.pointer (some ⟨gv, 0, none⟩), .int .i64 i, .int .u64 x, .int .u64 y] w fun e w' => e = .returned (.tuple #[]) ∧ Blk w' gv 49 (nums .u64 (mixL vs (pl i 0) (pl i 1) (pl i 2) (pl i 3) x y)) ∧ Only gv w w' := by
  obtain ⟨⟨la, lb, lc, ld⟩, n1, n2, n3, n4, n5, n6⟩ := pl_ok i hi
  have t0 : w.cell? ⟨2, i * 4 + 0, none⟩ = some (.int .u8 (pl i 0 : Nat)) := T (i * 4 + 0) (by omega)
  have t1 : w.cell? ⟨2, i * 4 + 1, none⟩ = some (.int .u8 (pl i 1 : Nat)) := T (i * 4 + 1) (by omega)
  have t2 : w.cell? ⟨2, i * 4 + 2, none⟩ = some (.int .u8 (pl i 2 : Nat)) := T (i * 4 + 2) (by omega)
  have t3 : w.cell? ⟨2, i * 4 + 3, none⟩ = some (.int .u8 (pl i 3 : Nat)) := T (i * 4 + 3) (by omega)
  unfold mixL
  generalize pl i 0 = a at *
  generalize pl i 1 = b at *
  generalize pl i 2 = c at *
  generalize pl i 3 = d at *
  have ca : w.cell? ⟨gv, a, none⟩ = _ := (hg.cell a).trans (nums_get .u64 vs a (by omega))
  have cb : w.cell? ⟨gv, b, none⟩ = _ := (hg.cell b).trans (nums_get .u64 vs b (by omega))
  have cc : w.cell? ⟨gv, c, none⟩ = _ := (hg.cell c).trans (nums_get .u64 vs c (by omega))
  have cd : w.cell? ⟨gv, d, none⟩ = _ := (hg.cell d).trans (nums_get .u64 vs d (by omega))
  have ra := hv.get a
  have rb := hv.get b
  have rc := hv.get c
  have rd := hv.get d
  generalize vs.getD a 0 = va at *
  generalize vs.getD b 0 = vb at *
  generalize vs.getD c 0 = vc at *
  generalize vs.getD d 0 = vd at *
  have ffa := hg.free a
  have ffb := hg.free b
  have ffc := hg.free c
  have ffd := hg.free d
  rw [Nat.add_zero] at t0
  have hi8 : (i : Int) < 8 := by omega
  have ha6 : (a : Int) < 16 := by omega
  have hb6 : (b : Int) < 16 := by omega
  have hc6 : (c : Int) < 16 := by omega
  have hd6 : (d : Int) < 16 := by omega
  go_enter Tryd.func26, Tryd.ntmps26
  go_wp2_with fail
  go_quiet (fail)
  go_wp2_with fail
  refine (turn6 vd _ 32 32 rfl rd (wrap6_range _) _).mono ?_
  rintro e w' ⟨d1, rfl, hd1, rd1, rfl⟩
  go_wp2_with fail
  refine (turn6 vb _ 24 24 rfl rb (wrap6_range _) _).mono ?_
  rintro e w' ⟨b1, rfl, hb1, rb1, rfl⟩
  go_wp2_with fail
  refine (turn6 d1 _ 16 16 rfl rd1 (wrap6_range _) _).mono ?_
  rintro e w' ⟨d2, rfl, hd2, rd2, rfl⟩
  go_wp2_with fail
  refine (turn6 b1 _ 63 63 rfl rb1 (wrap6_range _) _).mono ?_
  rintro e w' ⟨b2, rfl, hb2, rb2, rfl⟩
  go_wp2_with fail
  go_region
  go_end0
  refine ⟨rfl, ?_, (((((Only.refl gv w).drewN (nq + 1)).put a _).put b _).put c _).put d _⟩
  have e : full ⟨va, vb, vc, vd⟩ x y = ⟨IntKind.u64.wrap (IntKind.u64.wrap (va + IntKind.u64.wrap (vb + x)) + IntKind.u64.wrap (b1 + y)), b2, IntKind.u64.wrap (IntKind.u64.wrap (vc + d1) + d2), d2⟩ := by
    simp only [full, half, add6, hd1.out, hb1.out, hd2.out, hb2.out]
  rw [e]
  have h1 := ((((hg.drewN (nq + 1)).put a (.int .u64 (IntKind.u64.wrap (IntKind.u64.wrap (va + IntKind.u64.wrap (vb + x)) + IntKind.u64.wrap (b1 + y))))).put b (.int .u64 b2)).put c (.int .u64 (IntKind.u64.wrap (IntKind.u64.wrap (vc + d1) + d2)))).put d (.int .u64 d2)
  rw [nums_put, nums_put, nums_put, nums_put] at h1
  exact h1
theorem length_mixL (v : List Int) (a b c d : Nat) (x y : Int) : (mixL v a b c d x y).length = v.length := by simp [mixL]
theorem half_range (v : Four) (x : Int) (k l : Nat) (hk : k ≤ 64) (hl : l ≤ 64) (hb : 0 ≤ v.b ∧ v.b < 18446744073709551616) (hd : 0 ≤ v.d ∧ v.d < 18446744073709551616) :
    (0 ≤ (half v x k l).a ∧ (half v x k l).a < 18446744073709551616) ∧ (0 ≤ (half v x k l).b ∧ (half v x k l).b < 18446744073709551616) ∧ (0 ≤ (half v x k l).c ∧ (half v x k l).c < 18446744073709551616) ∧ (0 ≤ (half v x k l).d ∧ (half v x k l).d < 18446744073709551616) := by
  have h1 := xor6_range hd (wrap6_range (v.a + add6 v.b x))
  have h2 := turned_range 64 _ k hk h1.1 h1.2
  have h3 := xor6_range hb (wrap6_range (v.c + turned 64 (xor6 v.d (add6 v.a (add6 v.b x))) k))
  have h4 := turned_range 64 _ l hl h3.1 h3.2
  exact ⟨wrap6_range _, h4, wrap6_range _, h2⟩
theorem in6_mixL {v : List Int} (h : In6 v) (a b c d : Nat) (x y : Int) : In6 (mixL v a b c d x y) := by
  obtain ⟨_, h1, _, h2⟩ := half_range ⟨v.getD a 0, v.getD b 0, v.getD c 0, v.getD d 0⟩ x 32 24 (by decide) (by decide) (h.get b) (h.get d)
  obtain ⟨f1, f2, f3, f4⟩ := half_range (half ⟨v.getD a 0, v.getD b 0, v.getD c 0, v.getD d 0⟩ x 32 24) y 16 63 (by decide) (by decide) h1 h2
  exact (((h.set a f1).set b f2).set c f3).set d f4
end Go.Proofs.YtgcboodlneknpaaDoor
