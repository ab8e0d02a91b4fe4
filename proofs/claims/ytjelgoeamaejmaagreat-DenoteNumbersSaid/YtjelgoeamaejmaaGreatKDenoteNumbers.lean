/-
  PROVED: the law DenoteNumbers returns true for every three numbers (Rows.DenoteNumbersSaid). Conditions: none.
-/
import Derived.Test.YtjelgoeamaejmaaGreatKBM
import Derived.Test.YtjelgoeamaejmaaGreatKAW
import Derived.Test.YtjelgoeamaejmaaGreatRows
import Derived.WalkKit
import Derived.ProofKit
import Derived.OpenShut
namespace Go.Proofs.YtjelgoeamaejmaaGreat.denoteNumbers
open Go.ChangeShapes Go.WideShapes Go.ChangeAt Go.RowKit

theorem or_big (U : Int) (h0 : 0 ≤ U) (h1 : U < 18446744073709551616) : 9223372036854775807 < bits .or .u64 U 9223372036854775808 := by
  obtain ⟨u, rfl⟩ : ∃ u : Nat, U = u := ⟨U.toNat, by omega⟩
  rw [show (9223372036854775808 : Int) = ((9223372036854775808 : Nat) : Int) from rfl, bits_or_u64_nat _ _ (by omega) (by decide)]
  have := Nat.right_le_or (n := u) (m := 9223372036854775808)
  omega
theorem wrapU (a : Int) : 0 ≤ IntKind.u64.wrap a ∧ IntKind.u64.wrap a < 18446744073709551616 := by
  have e : IntKind.u64.wrap a = a % 18446744073709551616 := by simp [IntKind.wrap, IntKind.bits, IntKind.signed]
  rw [e]
  omega
theorem num_at {w : World} {g : Nat} (lo hi : Int) (h : Blk w g 47 #[.int .i64 1, .int .i64 lo, .int .i64 hi, .int .i64 0, .int .u64 0, .string ⟨#[]⟩, .slice none 0 0, .slice none 0 0, .slice none 0 0]) : RdN w w.heap.size (some ⟨g, 0, none⟩) (numN lo hi) := by
  intro _
  refine ⟨g, 0, rfl, h.lt, h.lt, fun i x hx => ?_⟩
  have hi := (List.getElem?_eq_some_iff.1 hx).1
  obtain rfl : i = 0 := by have : i < 1 := hi; omega
  obtain rfl : (⟨1, lo, _, zIt, [], []⟩ : Nd) = x := by injection hx
  refine ⟨⟨none, 0, none, 0, none, 0⟩, ⟨zIt_at _ _, (fun h => absurd h (by simp)), Nat.le_refl _, (fun _ => rfl), RdF.nil, Nat.le_refl _, fun _ => rfl⟩, fun j u hu => ?_⟩
  rw [h.cell]
  have hj := (Array.getElem?_eq_some_iff.1 hu).1
  simp [nc] at hj
  rcases (by omega : j = 0 ∨ j = 1 ∨ j = 2 ∨ j = 3 ∨ j = 4 ∨ j = 5 ∨ j = 6 ∨ j = 7 ∨ j = 8) with rfl | rfl | rfl | rfl | rfl | rfl | rfl | rfl | rfl <;> exact hu
theorem numS_at (w : World) (lo hi : Int) : ∃ w6, (w.alloc (.cells #[.int .i64 1, .int .i64 lo, .int .i64 hi, .int .i64 0, .int .u64 0, .string ⟨#[]⟩, .slice none 0 0, .slice none 0 0, .slice none 0 0] 47)).alloc (.cells #[.slice (some ⟨w.heap.size, 0, none⟩) 1 1] 24) = w6 ∧ RdN w6 w6.heap.size (some ⟨w.heap.size, 0, none⟩) (numN lo hi) ∧ Blk w6 (w.heap.size + 1) 24 #[.slice (some ⟨w.heap.size, 0, none⟩) 1 1] ∧ Below w.heap.size w w6 := by
  have h1 := Blk.fresh w 47 #[.int .i64 1, .int .i64 lo, .int .i64 hi, .int .i64 0, .int .u64 0, .string ⟨#[]⟩, .slice none 0 0, .slice none 0 0, .slice none 0 0]
  have s1 := below_alloc w (.cells #[.int .i64 1, .int .i64 lo, .int .i64 hi, .int .i64 0, .int .u64 0, .string ⟨#[]⟩, .slice none 0 0, .slice none 0 0, .slice none 0 0] 47)
  have e1 : (w.alloc (.cells #[.int .i64 1, .int .i64 lo, .int .i64 hi, .int .i64 0, .int .u64 0, .string ⟨#[]⟩, .slice none 0 0, .slice none 0 0, .slice none 0 0] 47)).heap.size = w.heap.size + 1 := by simp
  generalize w.alloc (.cells #[.int .i64 1, .int .i64 lo, .int .i64 hi, .int .i64 0, .int .u64 0, .string ⟨#[]⟩, .slice none 0 0, .slice none 0 0, .slice none 0 0] 47) = v at *
  have h2 := Blk.fresh v 24 #[.slice (some ⟨w.heap.size, 0, none⟩) 1 1]
  have s2 := below_alloc v (.cells #[.slice (some ⟨w.heap.size, 0, none⟩) 1 1] 24)
  rw [e1] at h2
  generalize v.alloc (.cells #[.slice (some ⟨w.heap.size, 0, none⟩) 1 1] 24) = u at *
  refine ⟨u, rfl, ?_, h2, s1.trans (s2.mono s1.size)⟩
  exact num_at lo hi (h1.on s2)
set_option maxRecDepth 100000 in
set_option maxHeartbeats 4000000 in
theorem walk (w : World) (a0 : Int) (b0 : -9223372036854775808 ≤ a0 ∧ a0 ≤ 9223372036854775807) (a1 : Int) (b1 : -9223372036854775808 ≤ a1 ∧ a1 ≤ 9223372036854775807) (a2 : Int) (b2 : -9223372036854775808 ≤ a2 ∧ a2 ≤ 9223372036854775807) :
    Calls Tryz.prog 5 #[.int .i64 a0, .int .i64 a1, .int .i64 a2] w fun e w' => e = .returned (.bool true) ∧ Below w.heap.size w w' := by
  have HA := Lib.hid (den_awake w)
  go_enter Tryz.func5, Tryz.ntmps5
  go_wp2_with fail
  refine HA.out.mono ?_
  rintro e w1 ⟨rfl, S1⟩
  clear HA
  by_cases hn : a0 < 0
  · have b2 := Blk.fresh w1 28 #[.int .i64 1, .int .u64 (-1 - a0), .string ⟨#[]⟩, .slice none 0 0]
    have S2 := S1.trans ((below_alloc w1 (.cells #[.int .i64 1, .int .u64 (-1 - a0), .string ⟨#[]⟩, .slice none 0 0] 28)).mono S1.size)
    go_wp2_with fail
    generalize w1.alloc (.cells #[.int .i64 1, .int .u64 (-1 - a0), .string ⟨#[]⟩, .slice none 0 0] 28) = w2 at *
    have HB2 := Lib.hid b2
    have HS2 := Lib.hid S2
    generalize w1.heap.size = g at *
    clear b2 S2 S1
    have HN1 := Lib.hid (den_Number 1 (-1 - a0) ⟨#[]⟩ none 0 0 w2 (by omega))
    rw [numR_one (n := -1 - a0) (by omega)] at HN1
    refine HN1.out.mono ?_
    rintro e w3 ⟨rfl, hb3⟩
    have HS3 := Lib.hid (HS2.out.trans (hb3.mono HS2.out.size))
    have HB3 := Lib.hid (HB2.out.on hb3)
    clear hb3 HN1 HB2 HS2
    dsimp only
    have HBG := Lib.hid (or_big (IntKind.u64.wrap a0) (wrapU a0).1 (wrapU a0).2)
    go_wp2_with fail
    have HN2 := Lib.hid (den_Number 0 (bits .or .u64 (IntKind.u64.wrap a0) 9223372036854775808) ⟨#[]⟩ none 0 0 w3 (by have := HBG.out; omega))
    rw [numR_great HBG.out] at HN2
    refine HN2.out.mono ?_
    rintro e w4 ⟨rfl, hb4⟩
    have HS4 := Lib.hid (HS3.out.trans (hb4.mono HS3.out.size))
    have HB4 := Lib.hid (HB3.out.on hb4)
    clear hb4 HN2 HB3 HS3 HBG
    dsimp only
    generalize bits .or .u64 (IntKind.u64.wrap a0) 9223372036854775808 = uu at *
    go_wp2_with fail
    have HN3 := Lib.hid (den_Number 3 0 ⟨#[]⟩ none 0 0 w4 (by decide))
    rw [numR_other (by decide) (by decide)] at HN3
    refine HN3.out.mono ?_
    rintro e w5 ⟨rfl, hb5⟩
    have HS5 := Lib.hid (HS4.out.trans (hb5.mono HS4.out.size))
    have HB5 := Lib.hid (HB4.out.on hb5)
    clear hb5 HN3 HB4 HS4
    dsimp only
    obtain ⟨w6, hw6, RX, BX6, S6⟩ := numS_at w5 (min a1 a2) (max a1 a2)
    have HI6 := Lib.hid (HB5.out.on S6)
    have HX := Lib.hid RX
    have HBX := Lib.hid BX6
    have HS6 := Lib.hid (HS5.out.trans (S6.mono HS5.out.size))
    have c0 : w6.cell? ⟨g, 0, none⟩ = some (.int .i64 1) := by rw [HI6.out.cell]; rfl
    have c1 : w6.cell? ⟨g, 1, none⟩ = some (.int .u64 (-1 - a0)) := by rw [HI6.out.cell]; rfl
    have c2 : w6.cell? ⟨g, 2, none⟩ = some (.string ⟨#[]⟩) := by rw [HI6.out.cell]; rfl
    have c3 : w6.cell? ⟨g, 3, none⟩ = some (.slice none 0 0) := by rw [HI6.out.cell]; rfl
    have c4 : w6.cell? ⟨w5.heap.size + 1, 0, none⟩ = some (.slice (some ⟨w5.heap.size, 0, none⟩) 1 1) := sblk BX6
    have HD := Lib.hid (den_num (min a1 a2) (max a1 a2) 1 (-1 - a0) (some ⟨w5.heap.size, 0, none⟩) 1 w6 RX (by omega) (by decide) (by omega) (by omega))
    rw [numR_one (n := -1 - a0) (by omega)] at HD
    clear RX BX6 S6
    go_wp2_with (first
      | (go_at_call 9; refine HD.out.mono ?_; rintro e w7 ⟨rfl, hb7⟩; have HS7 := Lib.hid (HS6.out.trans (hb7.mono HS6.out.size)); clear hb7)
      | fail)
    all_goals
      go_ret
      refine ⟨?_, HS7.out⟩
      unfold inR
      congr 2
      simp
      try omega
  · have b2 := Blk.fresh w1 28 #[.int .i64 0, .int .u64 (a0), .string ⟨#[]⟩, .slice none 0 0]
    have S2 := S1.trans ((below_alloc w1 (.cells #[.int .i64 0, .int .u64 (a0), .string ⟨#[]⟩, .slice none 0 0] 28)).mono S1.size)
    go_wp2_with fail
    generalize w1.alloc (.cells #[.int .i64 0, .int .u64 (a0), .string ⟨#[]⟩, .slice none 0 0] 28) = w2 at *
    have HB2 := Lib.hid b2
    have HS2 := Lib.hid S2
    generalize w1.heap.size = g at *
    clear b2 S2 S1
    have HN1 := Lib.hid (den_Number 0 (a0) ⟨#[]⟩ none 0 0 w2 (by omega))
    rw [numR_zero (n := a0) (by omega)] at HN1
    refine HN1.out.mono ?_
    rintro e w3 ⟨rfl, hb3⟩
    have HS3 := Lib.hid (HS2.out.trans (hb3.mono HS2.out.size))
    have HB3 := Lib.hid (HB2.out.on hb3)
    clear hb3 HN1 HB2 HS2
    dsimp only
    have HBG := Lib.hid (or_big (a0) (by omega) (by omega))
    go_wp2_with fail
    have HN2 := Lib.hid (den_Number 0 (bits .or .u64 (a0) 9223372036854775808) ⟨#[]⟩ none 0 0 w3 (by have := HBG.out; omega))
    rw [numR_great HBG.out] at HN2
    refine HN2.out.mono ?_
    rintro e w4 ⟨rfl, hb4⟩
    have HS4 := Lib.hid (HS3.out.trans (hb4.mono HS3.out.size))
    have HB4 := Lib.hid (HB3.out.on hb4)
    clear hb4 HN2 HB3 HS3 HBG
    dsimp only
    generalize bits .or .u64 (a0) 9223372036854775808 = uu at *
    go_wp2_with fail
    have HN3 := Lib.hid (den_Number 3 0 ⟨#[]⟩ none 0 0 w4 (by decide))
    rw [numR_other (by decide) (by decide)] at HN3
    refine HN3.out.mono ?_
    rintro e w5 ⟨rfl, hb5⟩
    have HS5 := Lib.hid (HS4.out.trans (hb5.mono HS4.out.size))
    have HB5 := Lib.hid (HB4.out.on hb5)
    clear hb5 HN3 HB4 HS4
    dsimp only
    obtain ⟨w6, hw6, RX, BX6, S6⟩ := numS_at w5 (min a1 a2) (max a1 a2)
    have HI6 := Lib.hid (HB5.out.on S6)
    have HX := Lib.hid RX
    have HBX := Lib.hid BX6
    have HS6 := Lib.hid (HS5.out.trans (S6.mono HS5.out.size))
    have c0 : w6.cell? ⟨g, 0, none⟩ = some (.int .i64 0) := by rw [HI6.out.cell]; rfl
    have c1 : w6.cell? ⟨g, 1, none⟩ = some (.int .u64 (a0)) := by rw [HI6.out.cell]; rfl
    have c2 : w6.cell? ⟨g, 2, none⟩ = some (.string ⟨#[]⟩) := by rw [HI6.out.cell]; rfl
    have c3 : w6.cell? ⟨g, 3, none⟩ = some (.slice none 0 0) := by rw [HI6.out.cell]; rfl
    have c4 : w6.cell? ⟨w5.heap.size + 1, 0, none⟩ = some (.slice (some ⟨w5.heap.size, 0, none⟩) 1 1) := sblk BX6
    have HD := Lib.hid (den_num (min a1 a2) (max a1 a2) 0 (a0) (some ⟨w5.heap.size, 0, none⟩) 1 w6 RX (by omega) (by decide) (by omega) (by omega))
    rw [numR_zero (n := a0) (by omega)] at HD
    clear RX BX6 S6
    go_wp2_with (first
      | (go_at_call 9; refine HD.out.mono ?_; rintro e w7 ⟨rfl, hb7⟩; have HS7 := Lib.hid (HS6.out.trans (hb7.mono HS6.out.size)); clear hb7)
      | fail)
    all_goals
      go_ret
      refine ⟨?_, HS7.out⟩
      unfold inR
      congr 2
      simp
      try omega

theorem own : ownKnob Tryz.prog.godebug = none := by kernel_rfl
theorem laidOut : laidOutB Tryz.prog = true := by kernel_rfl
set_option maxRecDepth 100000 in
theorem lifted (os : Os) (started : os.Started) (H : Type) (enc : TypeId × Value → H) :
    ReturnsInHanded {} Tryz.checked os 5 .any (Rows.denoteNumbersSpec.pre6 enc Tryz.prog Tryz.f5 Rows.denoteNumbersRow.domain false) (Rows.denoteNumbersSpec.post enc Tryz.prog Tryz.f5 false true false false) := by
  refine returnsInHanded_of_change (C := Tryz.checked) own started (by kernel_rfl) Tryz.func5
    (ChangeSpec.witness6 (enc := enc) (C := Tryz.checked) false ⟨#[], #[.int .i64 0, .int .i64 0, .int .i64 0], []⟩ 8 (by kernel_rfl) (by kernel_rfl) (by kernel_rfl) (by kernel_rfl)) ?_
  intro W base args ds gs before hval0 hW _ _
  have hval : ∀ (j : Nat) t v, Tryz.f5.params[j]? = some t → args[j]? = some v → Value.okWide Tryz.prog W .any base t v := hval0
  have hlt := hW.lt
  have hW' := hW
  obtain ⟨p, q, hA0, hV, hpq, _, _⟩ := hW
  have hA : DataW.TrodAll enc Tryz.prog W 0 (fun _ => true) true Tryz.f5.params.toList args.toList ds p := hA0
  rw [Tryz.params5] at hA hval
  obtain ⟨v0, vs0, d0, ds0, p0, q0, hargs, rfl, rfl, h0, r0⟩ := trodAll_cons hA
  obtain ⟨v1, vs1, d1, ds1, p1, q1, rfl, rfl, rfl, h1, r1⟩ := trodAll_cons r0
  obtain ⟨v2, vs2, d2, ds2, p2, q2, rfl, rfl, rfl, h2, r2⟩ := trodAll_cons r1
  obtain ⟨rfl, rfl, rfl⟩ := trodAll_nil r2
  obtain rfl : args = #[v0, v1, v2] := by cases args; simp_all
  obtain ⟨rfl, rfl⟩ := trodVars_none hV
  obtain ⟨a0, rfl, rfl, rfl, w0⟩ := open_int Tryz.underlying3 (hval 0 3 v0 rfl rfl) h0
  have b0 : -9223372036854775808 ≤ a0 ∧ a0 ≤ 9223372036854775807 := by simpa [Lit.wf, IntKind.min, IntKind.max, IntKind.bits, IntKind.signed] using w0
  obtain ⟨a1, rfl, rfl, rfl, w1⟩ := open_int Tryz.underlying3 (hval 1 3 v1 rfl rfl) h1
  have b1 : -9223372036854775808 ≤ a1 ∧ a1 ≤ 9223372036854775807 := by simpa [Lit.wf, IntKind.min, IntKind.max, IntKind.bits, IntKind.signed] using w1
  obtain ⟨a2, rfl, rfl, rfl, w2⟩ := open_int Tryz.underlying3 (hval 2 3 v2 rfl rfl) h2
  have b2 : -9223372036854775808 ≤ a2 ∧ a2 ≤ 9223372036854775807 := by simpa [Lit.wf, IntKind.min, IntKind.max, IntKind.bits, IntKind.signed] using w2
  refine (walk W a0 b0 a1 b1 a2 b2).mono fun e W' ⟨he, hbl⟩ => ?_
  subst he
  exact ⟨_, rfl, law_post laidOut (by kernel_rfl) rfl (by kernel_rfl) Tryz.underlying4 rfl rfl rfl hW' hbl⟩

theorem over : Rows.denoteNumbersRow.holds Tryz.pinned (OpenSpec.ofChange Rows.denoteNumbersSpec) :=
  OpenClaim.holds_of_wide 5 Tryz.f5 rfl rfl rfl rfl rfl rfl rfl ⟨rfl, rfl, rfl, rfl, rfl⟩ rfl rfl rfl rfl rfl (by kernel_rfl) Tryz.func5 (by kernel_rfl)
    (of_decide_eq_true (by kernel_rfl)) (by unfold Func.isWrapper; first | (rw [if_pos (by decide +kernel)]; kernel_rfl) | (rw [if_neg (by decide +kernel)]; exact ⟨rfl, rfl⟩))
    (fun os started H enc _ => lifted os started H enc)

/-- The statement. -/
theorem proved : Rows.DenoteNumbersSaid := over
#print axioms proved
end Go.Proofs.YtjelgoeamaejmaaGreat.denoteNumbers
