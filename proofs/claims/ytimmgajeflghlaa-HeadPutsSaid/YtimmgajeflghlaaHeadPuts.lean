
/-
  PROVED: the law HeadPuts returns true for every input, and leaves its arguments as they were (Rows.HeadPutsSaid). Conditions: none beside the row's own.
-/
import Derived.Test.YtimmgajeflghlaaHeadV
import Derived.Test.YtimmgajeflghlaaHeadH
import Derived.Test.YtimmgajeflghlaaHeadW
import Derived.Test.YtimmgajeflghlaaSame
import Derived.Test.YtimmgajeflghlaaLaw
import Derived.WalkKit
import Derived.ProofKit
import Derived.OpenShut
namespace Go.Proofs.Ytimmgajeflghlaa.headPuts
open Go.ChangeShapes Go.WideShapes Go.ChangeAt Go.RowKit

theorem rem8 (n : Int) : ((n.tmod 8) + 8).tmod 8 = n % 8 ∧ -8 < n.tmod 8 ∧ n.tmod 8 < 8 := by
  have h := Int.tmod_eq_emod (a := n) (b := 8)
  have hn : ((8 : Int).natAbs : Int) = 8 := rfl
  have hs : -8 < n.tmod 8 ∧ n.tmod 8 < 8 := by split at h <;> omega
  refine ⟨?_, hs⟩
  rw [Int.tmod_eq_emod_of_nonneg (by omega : 0 ≤ n.tmod 8 + 8)]
  split at h <;> omega
set_option maxHeartbeats 4000000 in
set_option maxRecDepth 100000 in
theorem walk (w : World) (M : Int) (_b0 : -9223372036854775808 ≤ M ∧ M ≤ 9223372036854775807) (a : Int) (b1 : 0 ≤ a ∧ a ≤ 18446744073709551615) :
    Calls Try.prog 4 #[.int .i64 M, .int .u64 a] w fun e w' => e = .returned (.bool true) ∧ Below w.heap.size w w' := by
  obtain ⟨h8, hr0, hr1⟩ := rem8 M
  obtain ⟨ha0, ha1⟩ := b1
  have hm0 : 0 ≤ M % 8 := by omega
  have hm7 : M % 8 ≤ 7 := by omega
  have HZ := h3_zero
  have HA := Lib.hid head_awake
  have HP := Lib.hid (head_Put M (M % 8) a rfl ha0 (by omega))
  have HPr := Lib.hid (ref_hput (M % 8) a hm0 hm7 ha0 (by omega))
  have HB := Lib.hid (byte_put hm0 hm7 ha0)
  have HRP := Lib.hid (fun r h => hread_put r hm0 hm7 ha0 (by omega) (h : hputL (M % 8) a ≠ []))
  have HNO := Lib.hid (fun h => hput_none (m := M % 8) (a := a) h)
  obtain ⟨x, rfl⟩ := Int.eq_ofNat_of_zero_le ha0
  have hx : x < 2 ^ 64 := by omega
  have HF := Lib.hid (head_PutFloat x hx)
  have HFr := Lib.hid (ref_PutFloat x hx)
  have HRF := Lib.hid (fun z k h => hread_float (x := x) (z := z) (k := k) h hx)
  have HBF := Lib.hid (fun z k (h : Shortest x z k) => byte_lay (m := 7) (W := (k : Int)) (a := (z : Int)) (by decide) (by decide) (Or.inr (by have := sh_wid h; omega)))
  have HLP : Hid ((hputL (M % 8) (x : Int)).length ≤ 9) := by
    unfold Hid hputL
    split
    · simp
    · rw [hlay_length]; unfold leastW; (repeat' split) <;> simp
  clear hx ha1
  generalize hxl : (x : Int) = xl at *
  generalize M % 8 = m at *
  clear hxl
  go_enter Try.func4, Try.ntmps4
  go_wp2_with fail
  refine (HA.out _).mono ?_
  rintro e w1 ⟨rfl, S1⟩
  have S := Lib.hid S1
  clear S1 HA
  go_wp2_with fail
  refine (HP.out _).mono ?_
  rintro e w2 ⟨v, rfl, O2, S2⟩
  have O2' := Lib.hid O2
  have S2' := Lib.hid (S.out.trans (S2.mono S.out.size))
  clear O2 S2 HP S
  go_wp2_with fail
  refine (HF.out _).mono ?_
  rintro e w3 ⟨z, k, hs, v2, rfl, O3, S3⟩
  have HS := Lib.hid (fun _ : Unit => hs)
  have O3' := Lib.hid O3
  have O23 := Lib.hid (O2'.out.below S3)
  have S3' := Lib.hid (S2'.out.trans (S3.mono S2'.out.size))
  clear hs O3 S3 HF O2' S2'
  go_wp2_with fail
  refine (HPr.out _).mono ?_
  rintro e w4 ⟨v3, rfl, O4, S4⟩
  have S4' := Lib.hid (S3'.out.trans (S4.mono S3'.out.size))
  have O24 := O23.out.below S4
  have O34 := Lib.hid (O3'.out.below S4)
  generalize hputL m xl = PL at *
  obtain ⟨A1, c1, rfl, _, _, hn1, _, R1⟩ := O24.form
  obtain ⟨A3, c3, rfl, _, _, _, _, R3⟩ := O4.form
  have HSM := Lib.hid (same_true w4 _ A1 A3 c1 c3 PL.length PL rfl R1 R3)
  have R14 := Lib.hid R1
  have N1 := Lib.hid hn1
  clear O4 S4 R1 R3 O24 O23 O3' S3' HPr hn1
  go_wp2_with (go_at_call 9; with_reducible refine HSM.out.mono ?_; rintro e w' ⟨rfl, rfl⟩)
  refine (HFr.out _).mono ?_
  rintro e w5 ⟨z', k', hs', v4, rfl, O5, S5⟩
  obtain ⟨rfl, rfl⟩ := shortest_fun (HS.out ()) hs'
  have hrf := HRF.out z k hs'
  have hbf := Lib.hid (HBF.out z k hs')
  have hlf : (hlay 7 (k : Int) (z : Int)).length ≤ 9 := by
    rw [hlay_length]; have := sh_wid hs'; omega
  have S5' := Lib.hid (S4'.out.trans (S5.mono S4'.out.size))
  have O35 := O34.out.below S5
  have R15 := Lib.hid (R14.out.on S5)
  clear hs' HS HRF HBF HFr
  generalize hlay 7 (k : Int) (z : Int) = FL at *
  obtain ⟨A2, c2, rfl, _, _, _, _, R2⟩ := O35.form
  obtain ⟨A4, c4, rfl, _, _, _, _, R4⟩ := O5.form
  have HSM2 := Lib.hid (same_true w5 _ A2 A4 c2 c4 FL.length FL rfl R2 R4)
  have HFi := Lib.hid (head_First w5 A2 c2 FL R2 hbf.out (by omega))
  rw [hrf] at HFi
  have EF : ∀ n : Nat, hfirstV ⟨7, k, z, n, -1, 0⟩ = .tuple #[.agg #[.int .i64 7, .int .i64 k, .int .u64 z], .int .i64 n, .int .i64 0] := fun _ => rfl
  rw [EF] at HFi
  have hlf' : (FL.length : Int) ≤ 9 := by omega
  generalize (k : Int) = kl at *
  generalize (z : Int) = zl at *
  clear O5 S5 R2 R4 O34 O35 S4' R14 hrf EF HSM
  go_wp2_with (go_at_call 9; with_reducible refine HSM2.out.mono ?_; rintro e w' ⟨rfl, rfl⟩)
  refine HFi.out.mono ?_
  rintro e w6 ⟨rfl, S6⟩
  have R16 := R15.out.on S6
  have S6' := S5'.out.trans (S6.mono S5'.out.size)
  obtain ⟨w7, hst, b7, s7⟩ := lay_head (w := w6) 7 kl zl
  have HST := Lib.hid hst
  have R17 := Lib.hid (R16.on s7)
  have S7 := Lib.hid (S6'.trans (s7.mono S6'.size))
  have HG := Lib.hid S6'.size
  have HB7 := Lib.hid b7
  have c70 : w7.cell? ⟨w6.heap.size, 0, none⟩ = some (.int .i64 7) := b7.cell 0
  simp only [h3cells] at HZ HST
  clear R16 S6' S6 S5' R15 HFi HSM2 hst b7 s7 hbf
  by_cases hP : PL = []
  · have hm := HNO.out hP
    subst hP hm
    clear HRP HB
    go_wp2_with ((with_reducible refine is_store 26 rfl ?_); (with_reducible refine wpList_store_run rfl rfl HST.out ?_ ?_ ?_); (· rfl); (· rfl))
    go_ret
    exact ⟨rfl, S7.out⟩
  · have hlen : ¬ ((PL.length : Int) = 0) := by
      intro h
      exact hP (List.length_eq_zero_iff.1 (by omega))
    have hlp : (PL.length : Int) ≤ 9 := by have := HLP.out; omega
    have hlp0 : (0 : Int) ≤ PL.length := by omega
    -- append onto nothing
    have o8 : Own (w7.alloc (.cells #[] 5)) w7.heap.size .u8 5 (.slice (some ⟨w7.heap.size, 0, none⟩) 0 0) [] := own_cells w7 5 [] (by simp)
    have r8 : Rd (w7.alloc (.cells #[] 5)) (w7.alloc (.cells #[] 5)).heap.size .u8 A1 PL := R17.out.on (below_alloc _ _)
    obtain ⟨v9, w9, hr9, o9, hb9, _⟩ := run_append_nums (P := Try.prog) (ty := 22) (xs := PL) (cap := c1) Try.underlying22 hinfo1 (by decide) o8 r8 N1.out (by simp; omega) (by simp)
    have HR9 := Lib.hid hr9
    have hb79 := (below_alloc w7 (.cells #[] 5)).trans hb9
    have o9' : Own w9 w7.heap.size .u8 5 v9 PL := o9
    -- and three more
    have o10 := o9'.alloc (.cells #[.int .u8 1, .int .u8 2, .int .u8 3] 5)
    have r10 : Rd (w9.alloc (.cells #[.int .u8 1, .int .u8 2, .int .u8 3] 5)) (w9.alloc (.cells #[.int .u8 1, .int .u8 2, .int .u8 3] 5)).heap.size .u8 (some ⟨w9.heap.size, 0, none⟩) [1, 2, 3] :=
      (Blk.fresh w9 5 (nums .u8 [1, 2, 3])).rd
    obtain ⟨v11, w11, hr11, o11, hb11, _⟩ := run_append_nums (P := Try.prog) (ty := 22) (xs := [1, 2, 3]) (cap := 3) Try.underlying22 hinfo1 (by decide) o10 r10 (fun h => by cases h) (by simp; omega) (by have := hb79.size; simp; omega)
    have hb711 := (hb79.alloc hb79.size (.cells #[.int .u8 1, .int .u8 2, .int .u8 3] 5)).trans hb11
    obtain ⟨A11, c11, rfl, _, _, _, _, R11⟩ := o11.form
    obtain ⟨n11, hn11⟩ : ∃ n, (PL ++ [1, 2, 3]).length = n := ⟨_, rfl⟩
    have HFi2 := Lib.hid (head_First w11 A11 c11 (PL ++ [1, 2, 3]) R11 (fun c hc => by
      rcases List.mem_append.1 hc with h | h
      · exact HB.out c h
      · simp at h; rcases h with rfl | rfl | rfl <;> decide) (by simp; omega))
    rw [HRP.out [1, 2, 3] hP] at HFi2
    have EF : ∀ (l : Int) (n : Nat), hfirstV ⟨m, l, xl, n, -1, 0⟩ = .tuple #[.agg #[.int .i64 m, .int .i64 l, .int .u64 xl], .int .i64 n, .int .i64 0] := fun _ _ => rfl
    rw [EF, hn11] at HFi2
    rw [hn11] at hr11
    have HR11 := Lib.hid hr11
    have b11 := HB7.out.on hb711
    have HB11 := Lib.hid b11
    have S11 := Lib.hid (S7.out.trans (hb711.mono S7.out.size))
    generalize leastW xl = W at *
    clear hn11 o8 r8 hr9 o9 hb9 hb79 o9' o10 r10 hr11 o11 hb11 hb711 R11 EF b11 HB HRP HNO R17 HB7 S7 HLP
    go_wp2_with (first | ((with_reducible refine is_store 26 rfl ?_); (with_reducible refine wpList_store_run rfl rfl HST.out ?_ ?_ ?_); (· rfl); (· rfl)) | ((with_reducible refine is_append 22 rfl ?_); (with_reducible refine wpList_append_run rfl rfl HR9.out ?_ ?_ ?_); (· rfl); (· rfl)) | ((with_reducible refine is_append 22 rfl ?_); (with_reducible refine wpList_append_run rfl rfl HR11.out ?_ ?_ ?_); (· rfl); (· rfl)))
    refine HFi2.out.mono ?_
    rintro e w12 ⟨rfl, S12⟩
    have b12 := HB11.out.on S12
    have HST2 := Lib.hid (run_store_all (P := Try.prog) (ty := 26) (c' := h3cells m W xl) b12 (by kernel_rfl) rfl (h3_one _ _ _))
    have b13 := b12.setRow (h3cells m W xl)
    have s13 := S11.out.trans (S12.mono S11.out.size)
    have S13 := Lib.hid (below_row s13 HG.out (h3cells m W xl) (g := w6.heap.size))
    generalize w12.setRow w6.heap.size (h3cells m W xl) = w13 at *
    have d0 : w13.cell? ⟨w6.heap.size, 0, none⟩ = some (.int .i64 m) := b13.cell 0
    have d2 : w13.cell? ⟨w6.heap.size, 2, none⟩ = some (.int .u64 xl) := b13.cell 2
    clear b12 s13 S12 b13 HFi2 HB11 S11 c70 HST
    simp only [h3cells] at HST2
    go_wp2_with ((with_reducible refine is_store 26 rfl ?_); (with_reducible refine wpList_store_run rfl rfl HST2.out ?_ ?_ ?_); (· rfl); (· rfl))
    go_ret
    exact ⟨rfl, S13.out⟩

theorem own : ownKnob Try.prog.godebug = none := by kernel_rfl
theorem laidOut : laidOutB Try.prog = true := by kernel_rfl
set_option maxRecDepth 100000 in
theorem lifted (os : Os) (started : os.Started) (H : Type) (enc : TypeId × Value → H) :
    ReturnsInHanded {} Try.checked os 4 .any (Rows.headPutsSpec.pre6 enc Try.prog Try.f4 Rows.headPutsRow.domain false) (Rows.headPutsSpec.post enc Try.prog Try.f4 false true false false) := by
  refine returnsInHanded_of_change (C := Try.checked) own started (by kernel_rfl) Try.func4
    (ChangeSpec.witness6 (enc := enc) (C := Try.checked) false ⟨#[], #[.int .i64 0, .int .u64 0], []⟩ 8 (by kernel_rfl) (by kernel_rfl) (by kernel_rfl) (by kernel_rfl)) ?_
  intro W base args ds gs before hval0 hW _ _
  have hval : ∀ (j : Nat) t v, Try.f4.params[j]? = some t → args[j]? = some v → Value.okWide Try.prog W .any base t v := hval0
  have hlt := hW.lt
  have hW' := hW
  obtain ⟨p, q, hA0, hV, hpq, _, _⟩ := hW
  have hA : DataW.TrodAll enc Try.prog W 0 (fun _ => true) true Try.f4.params.toList args.toList ds p := hA0
  rw [Try.params4] at hA hval
  obtain ⟨v0, vs0, d0, ds0, p0, q0, hargs, rfl, rfl, h0, r0⟩ := trodAll_cons hA
  obtain ⟨v1, vs1, d1, ds1, p1, q1, rfl, rfl, rfl, h1, r1⟩ := trodAll_cons r0
  obtain ⟨rfl, rfl, rfl⟩ := trodAll_nil r1
  obtain rfl : args = #[v0, v1] := by cases args; simp_all
  obtain ⟨rfl, rfl⟩ := trodVars_none hV
  obtain ⟨a0, rfl, rfl, rfl, w0⟩ := open_int Try.underlying3 (hval 0 3 v0 rfl rfl) h0
  have b0 : -9223372036854775808 ≤ a0 ∧ a0 ≤ 9223372036854775807 := by simpa [Lit.wf, IntKind.min, IntKind.max, IntKind.bits, IntKind.signed] using w0
  obtain ⟨a1, rfl, rfl, rfl, w1⟩ := open_int Try.underlying24 (hval 1 24 v1 rfl rfl) h1
  have b1 : 0 ≤ a1 ∧ a1 ≤ 18446744073709551615 := by simpa [Lit.wf, IntKind.min, IntKind.max, IntKind.bits, IntKind.signed] using w1
  refine (walk W a0 b0 a1 b1).mono fun e W' ⟨he, hbl⟩ => ?_
  subst he
  exact ⟨_, rfl, law_post laidOut (by kernel_rfl) rfl (by kernel_rfl) Try.underlying4 rfl rfl rfl hW' hbl⟩

theorem over : Rows.headPutsRow.holds Try.pinned (OpenSpec.ofChange Rows.headPutsSpec) :=
  OpenClaim.holds_of_wide 4 Try.f4 rfl rfl rfl rfl rfl rfl rfl ⟨rfl, rfl, rfl, rfl, rfl⟩ rfl rfl rfl rfl rfl (by kernel_rfl) Try.func4 (by kernel_rfl)
    (of_decide_eq_true (by kernel_rfl)) (by unfold Func.isWrapper; first | (rw [if_pos (by decide +kernel)]; kernel_rfl) | (rw [if_neg (by decide +kernel)]; exact ⟨rfl, rfl⟩))
    (fun os started H enc _ => lifted os started H enc)

/-- The statement. -/
theorem proved : Rows.HeadPutsSaid := over
#print axioms proved
end Go.Proofs.Ytimmgajeflghlaa.headPuts
