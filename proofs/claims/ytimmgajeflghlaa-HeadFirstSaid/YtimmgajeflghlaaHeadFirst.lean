
/-
  PROVED: the law HeadFirst returns true for every input, and leaves its argument as it was (Rows.HeadFirstSaid). Conditions: none beside the row's own.
-/
import Derived.Test.YtimmgajeflghlaaHeadV
import Derived.Test.YtimmgajeflghlaaHeadH
import Derived.Test.YtimmgajeflghlaaHeadR
import Derived.Test.YtimmgajeflghlaaSame
import Derived.Test.YtimmgajeflghlaaLaw
import Derived.WalkKit
import Derived.ProofKit
import Derived.OpenShut
import Derived.Deep.RegionHeld3
namespace Go.Proofs.Ytimmgajeflghlaa.headFirst
open Go.ChangeShapes Go.WideShapes Go.ChangeAt Go.RowKit

theorem Rd.first {w : World} {B : Nat} {k : IntKind} {A : Option Addr} {zs : List Int} (h : Rd w B k A zs) (m : Nat) : Rd w B k A (zs.take m) := fun hn => by
  rw [List.length_take] at hn
  obtain ⟨b, o, hA, hb, hc⟩ := h (by omega)
  refine ⟨b, o, hA, hb, fun i hi => ?_⟩
  rw [List.length_take] at hi
  rw [hc i (by omega), getD_take _ _ _ (by omega)]
theorem run_front {P : Program} {t elem : TypeId} (hu : P.underlying t = some (.slice elem)) (hs : (P.info? elem).map (·.size) = some 1) (w : World) (b o len cap n : Nat) (hn : n ≤ cap) (hc : 0 < cap) :
    (Instr.sliceAt t (.slice (some ⟨b, o, none⟩) len cap) none (some (.int .i64 n)) none).run P w = .ok (.slice (some ⟨b, o, none⟩) n cap) w := by
  have hz : ∀ w, (sizeOf elem).run P w = .ok 1 w := fun w => by
    cases hq : P.info? elem with
    | none => simp [hq] at hs
    | some i =>
      have : i.size = 1 := by simpa [hq] using hs
      simp [sizeOf, typeInfo, hq, this]
  have he : P.elem t = elem := by simp [Program.elem, hu]
  have hne : ¬ cap = 0 := by omega
  rw [run_sliceAt_slice w t _ _ _ _ (by rw [he]; exact hu), run_slice_h w t _ len cap (by rw [he]; exact hu) .i64 n (by omega) (by omega), he, hz]
  simp [sliced, hne, Addr.add_mid]
theorem hread_wrong {L : List Int} (h : (hread L).e ≠ 0) : 0 ≤ (hread L).place := by
  unfold hread at h ⊢
  by_cases h0 : L.length = 0
  · rw [if_pos h0]; exact Int.le_refl 0
  rw [if_neg h0] at h ⊢
  by_cases h28 : 28 ≤ L.getD 0 0 % 32
  · rw [if_pos h28]; exact Int.le_refl 0
  rw [if_neg h28] at h ⊢
  by_cases h24 : L.getD 0 0 % 32 < 24
  · rw [if_pos h24] at h; exact absurd rfl h
  rw [if_neg h24] at h ⊢
  by_cases hcut : (L.length : Int) ≤ hwid (L.getD 0 0 % 32)
  · rw [if_pos hcut]; show (0 : Int) ≤ L.length; omega
  rw [if_neg hcut] at h ⊢
  by_cases hs : L.getD 0 0 / 32 = 7 ∧ hwid (L.getD 0 0 % 32) = 1 ∧ harg L (hwid (L.getD 0 0 % 32)) < 32
  · rw [if_pos hs]; show (0 : Int) ≤ 1; decide
  rw [if_neg hs] at h ⊢
  have hW : 0 ≤ hwid (L.getD 0 0 % 32) := by
    rcases hwid_of (L.getD 0 0 % 32) (by omega) (by omega) with ⟨_, h⟩ | ⟨_, h⟩ | ⟨_, h⟩ | ⟨_, h⟩ <;> omega
  unfold hlong at h ⊢
  generalize hshort (L.getD 0 0 / 32) (hwid (L.getD 0 0 % 32)) (harg L (hwid (L.getD 0 0 % 32))) = b at *
  cases b with
  | true => exact absurd rfl h
  | false => exact hW
set_option maxHeartbeats 4000000 in
set_option maxRecDepth 100000 in
theorem walk (w : World) (A : Option Addr) (cap : Nat) (zs : List Int) (hl : zs.length ≤ cap) (hr : Rd w w.heap.size .u8 A zs) (hz : ByteL zs) :
    Calls Try.prog 3 #[.slice A zs.length cap] w fun e w' => e = .returned (.bool true) ∧ Below w.heap.size w w' := by
  have HZ := h3_zero
  have HA := Lib.hid head_awake
  have HRd := Lib.hid hr
  have HB := Lib.hid hz
  clear hr hz
  by_cases h100 : 100 < zs.length
  · go_enter Try.func3, Try.ntmps3
    go_wp2_with fail
    refine (HA.out _).mono ?_
    rintro e w1 ⟨rfl, S1⟩
    have S := Lib.hid S1
    clear S1 HA
    go_wp2_with fail
    go_ret
    exact ⟨rfl, S.out⟩
  obtain ⟨r, hR⟩ : ∃ r, hread zs = r := ⟨_, rfl⟩
  have HF := Lib.hid (fun w' (h : Rd w' w'.heap.size .u8 A zs) => head_First w' A cap zs h HB.out (by omega))
  have HG := Lib.hid (fun w' (h : Rd w' w'.heap.size .u8 A zs) => ref_Read w' _ A cap zs 0 h (Nat.le_refl _) HB.out (by omega) (Nat.zero_le _))
  rw [List.drop_zero] at HG
  rw [hR] at HF HG
  have HP := Lib.hid (fun h : r.e ≠ 0 => (hR ▸ hread_wrong (L := zs) (by rw [hR]; exact h) : 0 ≤ r.place))
  have HOK := Lib.hid (fun h : r.e = 0 => hread_ok HB.out hR h)
  clear hR
  obtain ⟨m, W, a, n, p, f⟩ := r
  dsimp only at HP HOK
  by_cases hf : f = 0
  · subst hf
    obtain ⟨hm0, hm7, ha0, ha1, hp, hn, hn1, hnl, hput⟩ := HOK.out rfl
    have EF : hfirstV ⟨m, W, a, n, p, 0⟩ = .tuple #[.agg #[.int .i64 m, .int .i64 W, .int .u64 a], .int .i64 n, .int .i64 0] := rfl
    have EG : hreadV ⟨m, W, a, n, p, 0⟩ 0 = .tuple #[.int .i64 m, .int .i64 W, .int .u64 a, .int .i64 n, .int .i64 (-1), .int .i64 0] := by
      unfold hreadV; simp only; rw [if_pos (by omega)]
    rw [EF] at HF
    rw [EG] at HG
    clear EF EG HP HOK hp
    obtain ⟨k, rfl⟩ := Int.eq_ofNat_of_zero_le (show 0 ≤ n by omega)
    rw [Int.toNat_natCast] at hput
    clear hn
    have hkl : k ≤ zs.length := by omega
    obtain ⟨b, o, rfl, _, _⟩ := HRd.out.get (i := 0) (by omega)
    go_enter Try.func3, Try.ntmps3
    go_wp2_with fail
    refine (HA.out _).mono ?_
    rintro e w1 ⟨rfl, S1⟩
    have R1 := HRd.out.on S1
    have HF1 := Lib.hid (HF.out w1 R1)
    have S := Lib.hid S1
    have RR1 := Lib.hid R1
    clear S1 HA R1
    go_wp2_with fail
    refine HF1.out.mono ?_
    rintro e w2 ⟨rfl, S2⟩
    have R2 := RR1.out.on S2
    have S' := S.out.trans (S2.mono S.out.size)
    obtain ⟨w3, hst, b3, s3⟩ := lay_head (w := w2) m W a
    have HST := Lib.hid hst
    have R3 := R2.on s3
    have HG3 := Lib.hid (HG.out w3 R3)
    have B3 := Lib.hid b3
    have S3 := Lib.hid (S'.trans (s3.mono S'.size))
    have RR3 := Lib.hid R3
    clear HF HG HF1 R2 S2 S' S RR1 hst R3 b3 s3
    simp only [h3cells] at HZ HST ⊢
    go_wp2_with ((with_reducible refine is_store 26 rfl ?_); (with_reducible refine wpList_store_run rfl rfl HST.out ?_ ?_ ?_); (· rfl); (· rfl))
    refine HG3.out.mono ?_
    rintro e w4 ⟨rfl, S4⟩
    have b4 := B3.out.on S4
    have HL := Lib.hid (run_load_all (P := Try.prog) (ty := 26) b4 Try.underlying26 rfl hinfo_head)
    have R4 := RR3.out.on S4
    have S5 := Lib.hid (S3.out.trans (S4.mono S3.out.size))
    have RR4 := Lib.hid R4
    clear b4 S4 R4 HG3 B3 S3 RR3 HST
    simp only [h3cells] at HL
    by_cases h7 : m = 7 ∧ 1 < W
    · obtain ⟨h7, hW⟩ := h7
      clear hput
      go_wp2_with ((with_reducible refine is_load 26 rfl ?_); (with_reducible refine wpList_load_run rfl rfl HL.out ?_ ?_); (· rfl))
      go_quiet (fail)
      have S6 := Lib.hid (below_drawnN S5.out nq)
      generalize w4.drewN nq = w5 at *
      go_wp2_with fail
      go_ret
      exact ⟨rfl, S6.out⟩
    · have HPut := Lib.hid (head_Put m m a (by omega) ha0 ha1)
      have hpt := hput h7
      have HT : Hid (∀ w' w'' v, Rd w' w'.heap.size .u8 (some ⟨b, o, none⟩) zs → Own w'' w'.heap.size .u8 5 v (hputL m a) → Below w'.heap.size w' w'' →
          ∃ A' c', v = .slice A' k c' ∧ Calls Try.prog 9 #[.slice A' k c', .slice (some ⟨b, o, none⟩) k cap] w'' fun e w3 => e = .returned (.bool true) ∧ w'' = w3) := by
        intro w' w'' v hR hO hB
        rw [hpt] at hO
        have hlt : (zs.take k).length = k := by rw [List.length_take]; omega
        obtain ⟨A', c', rfl, _, _, _, _, hR'⟩ := hO.form
        rw [hlt]
        exact ⟨A', c', rfl, same_true w'' _ A' (some ⟨b, o, none⟩) c' cap k (zs.take k) hlt hR' (Rd.first (hR.on hB) k)⟩
      generalize hputL m a = PL at *
      clear hput hpt
      have hkc : (k : Int) ≤ cap := by omega
      have hsl : ∀ w, (Instr.sliceAt 22 (.slice (some ⟨b, o, none⟩) zs.length cap) none (some (.int .i64 k)) none).run Try.prog w = .ok (.slice (some ⟨b, o, none⟩) k cap) w := fun w => run_front Try.underlying22 elem_one w b o zs.length cap k (by omega) (by omega)
      by_cases h7' : m = 7
      · have hW : ¬ 1 < W := fun h => h7 ⟨h7', h⟩
        subst h7'
        have hWd : decide (1 < W) = false := by simp; omega
        clear h7
        go_wp2_with ((with_reducible refine is_load 26 rfl ?_); (with_reducible refine wpList_load_run rfl rfl HL.out ?_ ?_); (· rfl))
        go_region_held3 (fun _ => True) (trivial) ((first | (go_at_call 10; refine (HPut.out _).mono ?_; rintro e w5 ⟨v, rfl, o5, s5⟩; obtain ⟨A5, c5, rfl, hS5⟩ := HT.out _ _ _ RR4.out.drew o5 s5; have HS5 := Lib.hid hS5; have S6 := Lib.hid ((below_drawn S5.out).trans (s5.mono S5.out.size)); clear hS5 o5 s5) | (go_at_call 9; refine HS5.out.mono ?_; rintro e w' ⟨rfl, rfl⟩)))
        all_goals go_wp2_with fail
        all_goals go_ret
        all_goals exact ⟨rfl, S6.out⟩
      · clear h7
        go_wp2_with ((with_reducible refine is_load 26 rfl ?_); (with_reducible refine wpList_load_run rfl rfl HL.out ?_ ?_); (· rfl))
        have hmd : (m == 7) = false := by simp [h7']
        first | (go_region_with ((first | (go_at_call 10; refine (HPut.out _).mono ?_; rintro e w5 ⟨v, rfl, o5, s5⟩; obtain ⟨A5, c5, rfl, hS5⟩ := HT.out _ _ _ RR4.out.drew o5 s5; have HS5 := Lib.hid hS5; have S6 := Lib.hid ((below_drawn S5.out).trans (s5.mono S5.out.size)); clear hS5 o5 s5) | (go_at_call 9; refine HS5.out.mono ?_; rintro e w' ⟨rfl, rfl⟩)))) | fail
        all_goals go_wp2_with fail
        all_goals go_ret
        all_goals exact ⟨rfl, S6.out⟩
  · have hpl := HP.out hf
    have EF : hfirstV ⟨m, W, a, n, p, f⟩ = .tuple #[.agg #[.int .i64 0, .int .i64 0, .int .u64 0], .int .i64 p, .int .i64 f] := by unfold hfirstV; rw [if_neg hf]; rfl
    have EG : hreadV ⟨m, W, a, n, p, f⟩ 0 = .tuple #[.int .i64 m, .int .i64 W, .int .u64 a, .int .i64 n, .int .i64 p, .int .i64 f] := by
      unfold hreadV; simp only; rw [if_neg (by omega)]; simp
    rw [EF] at HF
    rw [EG] at HG
    clear EF EG HP HOK
    go_enter Try.func3, Try.ntmps3
    go_wp2_with fail
    refine (HA.out _).mono ?_
    rintro e w1 ⟨rfl, S1⟩
    have R1 := HRd.out.on S1
    have HF1 := Lib.hid (HF.out w1 R1)
    have S := Lib.hid S1
    have RR1 := Lib.hid R1
    clear S1 HA R1
    go_wp2_with fail
    refine HF1.out.mono ?_
    rintro e w2 ⟨rfl, S2⟩
    have R2 := RR1.out.on S2
    have S' := S.out.trans (S2.mono S.out.size)
    obtain ⟨w3, hst, b3, s3⟩ := lay_head (w := w2) 0 0 0
    have HST := Lib.hid hst
    have R3 := R2.on s3
    have HG3 := Lib.hid (HG.out w3 R3)
    have B3 := Lib.hid b3
    have S3 := Lib.hid (S'.trans (s3.mono S'.size))
    clear HF HG HF1 R2 S2 S' S RR1 hst R3 b3 s3
    simp only [h3cells] at HZ HST ⊢
    go_wp2_with ((with_reducible refine is_store 26 rfl ?_); (with_reducible refine wpList_store_run rfl rfl HST.out ?_ ?_ ?_); (· rfl); (· rfl))
    refine HG3.out.mono ?_
    rintro e w4 ⟨rfl, S4⟩
    have b4 := B3.out.on S4
    have HL := Lib.hid (run_load_all (P := Try.prog) (ty := 26) b4 Try.underlying26 rfl hinfo_head)
    have S5 := Lib.hid (S3.out.trans (S4.mono S3.out.size))
    clear b4 S4 HG3 B3 S3 HST
    simp only [h3cells] at HL
    go_wp2_with ((with_reducible refine is_load 26 rfl ?_); (with_reducible refine wpList_load_run rfl rfl HL.out ?_ ?_); (· rfl))
    go_ret
    exact ⟨rfl, S5.out⟩

theorem own : ownKnob Try.prog.godebug = none := by kernel_rfl
theorem laidOut : laidOutB Try.prog = true := by kernel_rfl
theorem cells_uint8 : Try.prog.cellsOf 5 = 1 := by kernel_rfl
set_option maxRecDepth 100000 in
theorem lifted (os : Os) (started : os.Started) (H : Type) (enc : TypeId × Value → H) :
    ReturnsInHanded {} Try.checked os 3 .any (Rows.headFirstSpec.pre6 enc Try.prog Try.f3 Rows.headFirstRow.domain false) (Rows.headFirstSpec.post enc Try.prog Try.f3 false true false false) := by
  refine returnsInHanded_of_change (C := Try.checked) own started (by kernel_rfl) Try.func3
    (ChangeSpec.witness6 (enc := enc) (C := Try.checked) false ⟨#[], #[.slice none 0 0], []⟩ 8 (by kernel_rfl) (by kernel_rfl) (by kernel_rfl) (by kernel_rfl)) ?_
  intro W base args ds gs before hval0 hW _ _
  have hval : ∀ (j : Nat) t v, Try.f3.params[j]? = some t → args[j]? = some v → Value.okWide Try.prog W .any base t v := hval0
  have hlt := hW.lt
  have hW' := hW
  obtain ⟨p, q, hA0, hV, hpq, _, _⟩ := hW
  have hA : DataW.TrodAll enc Try.prog W 0 (fun _ => true) true Try.f3.params.toList args.toList ds p := hA0
  rw [Try.params3] at hA hval
  obtain ⟨v0, vs0, d0, ds0, p0, q0, hargs, rfl, rfl, h0, r0⟩ := trodAll_cons hA
  obtain ⟨rfl, rfl, rfl⟩ := trodAll_nil r0
  obtain rfl : args = #[v0] := by cases args; simp_all
  obtain ⟨rfl, rfl⟩ := trodVars_none hV
  obtain ⟨A0, cap0, zs0, rfl, hl0, hcap0, hnil0, hr0, hw0⟩ := open_nums' Try.underlying22 Try.underlying5 cells_uint8 (hval 0 22 v0 rfl rfl) h0 (fun x hx => hlt x (by rw [hpq]; simp [hx]))
  have hz0 : ByteL zs0 := fun c hc => by
    have : 0 ≤ c ∧ c ≤ 255 := by simpa [Lit.wf, IntKind.min, IntKind.max, IntKind.bits, IntKind.signed] using hw0 c hc
    omega
  refine (walk W A0 cap0 zs0 hcap0 hr0 hz0).mono fun e W' ⟨he, hbl⟩ => ?_
  subst he
  exact ⟨_, rfl, law_post laidOut (by kernel_rfl) rfl (by kernel_rfl) Try.underlying4 rfl rfl rfl hW' hbl⟩

theorem over : Rows.headFirstRow.holds Try.pinned (OpenSpec.ofChange Rows.headFirstSpec) :=
  OpenClaim.holds_of_wide 3 Try.f3 rfl rfl rfl rfl rfl rfl rfl ⟨rfl, rfl, rfl, rfl, rfl⟩ rfl rfl rfl rfl rfl (by kernel_rfl) Try.func3 (by kernel_rfl)
    (of_decide_eq_true (by kernel_rfl)) (by unfold Func.isWrapper; first | (rw [if_pos (by decide +kernel)]; kernel_rfl) | (rw [if_neg (by decide +kernel)]; exact ⟨rfl, rfl⟩))
    (fun os started H enc _ => lifted os started H enc)

/-- The statement. -/
theorem proved : Rows.HeadFirstSaid := over
#print axioms proved
end Go.Proofs.Ytimmgajeflghlaa.headFirst
