
/-
  PROVED: the law UtfTells returns true for every string, and leaves its argument as it was (Rows.UtfTellsSaid). Conditions: none beside the row's own.
-/
import Derived.Test.YtmbnenoajpckjaaUtfV
import Derived.Test.YtmbnenoajpckjaaLaw
import Derived.WalkKit
import Derived.ProofKit
import Derived.OpenShut
namespace Go.Proofs.Ytmbnenoajpckjaa.utfTells
open Go.ChangeShapes Go.WideShapes Go.ChangeAt Go.RowKit
open Go.ChangeMaps (open_string shut_string)

theorem tell {s : ByteArray} {a : Int} (h : (a = -1 ∧ ∀ k, k ≤ (sbytes s).length → (uS s k).wr = false) ∨ ∃ k, k < (sbytes s).length ∧ a = k ∧ (uS s k).wr = false ∧ (uS s (k + 1)).wr = true) (k : Nat) (hk : k < s.size) :
    ((uS s (k + 1)).wr = false → a < 0 ∨ (k : Int) < a) ∧ ((uS s (k + 1)).wr = true → ¬ a < 0 ∧ ¬ (k : Int) < a) := by
  rcases h with ⟨rfl, h⟩ | ⟨j, hj, rfl, h1, h2⟩
  · refine ⟨fun _ => by omega, fun hw => ?_⟩
    rw [h (k + 1) (by rw [length_sbytes]; omega)] at hw
    cases hw
  · refine ⟨fun hw => ?_, fun hw => ?_⟩
    · right
      by_cases hjk : j ≤ k
      · have := ust_wr_mono (q := uq0) (l := sbytes s) (j := j + 1) (k := k + 1) (by omega) h2
        rw [show (uS s (k + 1)).wr = true from this] at hw
        cases hw
      · omega
    · refine ⟨by omega, fun hkj => ?_⟩
      have := ust_wr_mono (q := uq0) (l := sbytes s) (j := k + 1) (k := j) (by omega) hw
      rw [show (uS s j).wr = true from this] at h1
      cases h1
set_option maxHeartbeats 1000000 in
theorem walk (w : World) (s : ByteArray) : Calls Try.prog 3 #[.string s] w fun e w' => e = .returned (.bool true) ∧ Below w.heap.size w w' := by
  have HA := Lib.hid (utf_awake w)
  have HZ := uq_zero
  go_enter Try.func3, Try.ntmps3
  go_wp2_with fail
  refine HA.out.mono ?_
  rintro e w1 ⟨rfl, S⟩
  clear HA
  by_cases hs : 1000 < s.size
  · go_wp2_with fail
    go_ret
    exact ⟨rfl, S⟩
  have R0 := Lib.hid (ref_First s (by omega))
  have V0 := Lib.hid (utf_valid s (by omega))
  have F0 := Lib.hid (utf_first s (by omega))
  generalize uok uq0 (sbytes s) = ok at *
  have hat : Hid ((uat uq0 (sbytes s) 0 = -1 ∧ ∀ k, k ≤ (sbytes s).length → (uS s k).wr = false) ∨ ∃ k, k < (sbytes s).length ∧ uat uq0 (sbytes s) 0 = k ∧ (uS s k).wr = false ∧ (uS s (k + 1)).wr = true) := uat_cases uq0 (sbytes s) rfl
  obtain ⟨at_, eat⟩ : ∃ x, uat uq0 (sbytes s) 0 = x := ⟨_, rfl⟩
  rw [eat] at R0 F0 hat
  clear eat
  go_wp2_with (first
      | (go_at_call 8; ((with_reducible refine (V0.out _).mono ?_)); rintro e w' ⟨rfl, hx⟩; have S := S.trans (hx.mono S.size); clear hx)
      | (go_at_call 7; ((with_reducible refine (F0.out _).mono ?_)); rintro e w' ⟨rfl, hx⟩; have S := S.trans (hx.mono S.size); clear hx)
      | (go_at_call 6; ((with_reducible refine (R0.out _).mono ?_)); rintro e w' ⟨rfl, rfl⟩))
  have b0 : Blk (w'.alloc (.cells (ucells uq0) 29)) w'.heap.size 29 (ucells uq0) := Blk.fresh _ _ _
  have S2 : Below w.heap.size w (w'.alloc (.cells (ucells uq0) 29)) := S.alloc S.size _
  have hg : w.heap.size ≤ w'.heap.size := S.size
  clear V0 F0 R0
  generalize w'.alloc (.cells (ucells uq0) 29) = w2 at *
  generalize w'.heap.size = g at *
  clear HZ S
  have HD := Lib.hid (utf_done uq0 w2 g b0)
  rw [show udone uq0 = true from rfl] at HD
  go_wp2_with fail
  refine HD.out.mono ?_
  rintro e w3 ⟨rfl, rfl⟩
  clear HD
  go_wp2_with fail
  have B0 := Lib.hid b0
  clear b0
  go_loopw [6] (fun i wr => ∃ k : Nat, k ≤ s.size ∧ i = .int .i64 k ∧ Blk wr g 29 (ucells (uS s k)) ∧ Below w.heap.size w wr) (fun i _ => s.size - (intOf i).toNat)
  case atStart => exact ⟨0, Nat.zero_le _, rfl, B0.out, S2⟩
  case round =>
    obtain ⟨k, hk, rfl, hb, hbl⟩ := hrel
    by_cases hlt : k < s.size
    · have HI := run_sb (P := Try.prog) Try.underlying9 wr s k hlt k rfl
      have HSL : ∀ w, (Instr.slice 9 (.string s) none (some (.int .i64 ((k : Int) + 1))) none).run Try.prog w = .ok (.string (s.extract 0 (k + 1))) w := fun w => by
        rw [run_slice_string_to_if w 9 s .i64 ((k : Int) + 1) Try.underlying9, if_pos (by omega)]
        rfl
      have HR := Lib.hid (ref_First (s.extract 0 (k + 1)) (by simp; omega))
      rw [sbytes_extract] at HR
      have eok : uok uq0 ((sbytes s).take (k + 1)) = udone (uS s (k + 1)) := rfl
      rw [eok] at HR
      generalize uat uq0 ((sbytes s).take (k + 1)) 0 = x at *
      have HS := Lib.hid (utf_step (uS s k) (sb s k) (by have := ust_left (sbytes s) k; unfold uS; omega) wr g hb)
      rw [← uS_succ s k hlt] at HS
      have HB := Lib.hid hbl
      generalize sb s k = c at *
      clear hb hbl eok
      go_wp2_with (go_at_call 6; ((with_reducible refine (HR.out _).mono ?_)); rintro e w' ⟨rfl, rfl⟩)
      refine HS.out.mono ?_
      rintro e w4 ⟨rfl, b4, o4⟩
      have HD := Lib.hid (utf_done (uS s (k + 1)) w4 g b4)
      have B4 := Lib.hid b4
      have H4 := Lib.hid (HB.out.trans ((o4.below hg HB.out.size)))
      obtain ⟨t1, t2⟩ := tell hat.out k hlt
      clear b4 o4 HS HR HI HSL
      cases hwr : (uS s (k + 1)).wr with
      | true =>
        obtain ⟨t3, t4⟩ := t2 hwr
        clear t1 t2
        generalize udone (uS s (k + 1)) = dn at *
        go_wp2_with (go_at_call 9; ((with_reducible refine HD.out.mono ?_)); rintro e w' ⟨rfl, rfl⟩)
        go_roundw
        case rel => exact ⟨k + 1, by omega, by go_num, B4.out, H4.out⟩
        case measure => simp [intOf]; omega
      | false =>
        have t3 := t1 hwr
        clear t1 t2
        generalize udone (uS s (k + 1)) = dn at *
        by_cases t4 : at_ < 0
        · go_wp2_with (go_at_call 9; ((with_reducible refine HD.out.mono ?_)); rintro e w' ⟨rfl, rfl⟩)
          go_roundw
          case rel => exact ⟨k + 1, by omega, by go_num, B4.out, H4.out⟩
          case measure => simp [intOf]; omega
        · have t5 : (k : Int) < at_ := by omega
          go_wp2_with (go_at_call 9; ((with_reducible refine HD.out.mono ?_)); rintro e w' ⟨rfl, rfl⟩)
          go_roundw
          case rel => exact ⟨k + 1, by omega, by go_num, B4.out, H4.out⟩
          case measure => simp [intOf]; omega
    · have HR := Lib.hid (utf_reset _ wr g hb)
      have HB := Lib.hid hbl
      clear hb hbl hat
      go_wp2_with fail
      refine HR.out.mono ?_
      rintro e w3 ⟨rfl, b3, o3⟩
      have HD := Lib.hid (utf_done uq0 w3 g b3)
      rw [show udone uq0 = true from rfl] at HD
      have HS := Lib.hid (utf_step uq0 97 (by decide) w3 g b3)
      rw [show ustep uq0 97 = ⟨0, 128, 191, false⟩ from ustep_some rfl rfl (by decide)] at HS
      have O3 := Lib.hid o3
      clear b3 o3 HR
      go_wp2_with (go_at_call 9; ((with_reducible refine HD.out.mono ?_)); rintro e w' ⟨rfl, rfl⟩)
      refine HS.out.mono ?_
      rintro e w4 ⟨rfl, b4, o4⟩
      have HD2 := Lib.hid (utf_done _ w4 g b4)
      rw [show udone ⟨0, 128, 191, false⟩ = true from rfl] at HD2
      have H4 := Lib.hid (HB.out.trans (((O3.out.trans o4).below hg HB.out.size)))
      clear b4 o4 HD HS
      go_wp2_with (go_at_call 9; ((with_reducible refine HD2.out.mono ?_)); rintro e w' ⟨rfl, rfl⟩)
      go_ret
      exact ⟨rfl, H4.out⟩

theorem own : ownKnob Try.prog.godebug = none := by kernel_rfl
theorem laidOut : laidOutB Try.prog = true := by kernel_rfl
set_option maxRecDepth 100000 in
theorem lifted (os : Os) (started : os.Started) (H : Type) (enc : TypeId × Value → H) :
    ReturnsInHanded {} Try.checked os 3 .any (Rows.utfTellsSpec.pre6 enc Try.prog Try.f3 Rows.utfTellsRow.domain false) (Rows.utfTellsSpec.post enc Try.prog Try.f3 false true false false) := by
  refine returnsInHanded_of_change (C := Try.checked) own started (by kernel_rfl) Try.func3
    (ChangeSpec.witness6 (enc := enc) (C := Try.checked) false ⟨#[], #[.string ⟨#[]⟩], []⟩ 8 (by kernel_rfl) (by kernel_rfl) (by kernel_rfl) (by kernel_rfl)) ?_
  intro W base args ds gs before hval0 hW hcnd _
  have hval : ∀ (j : Nat) t v, Try.f3.params[j]? = some t → args[j]? = some v → Value.okWide Try.prog W .any base t v := hval0
  have hW' := hW
  obtain ⟨p, q, hA0, hV, rfl, hfz, hnd⟩ := hW
  have hA : DataW.TrodAll enc Try.prog W 0 (fun _ => true) true Try.f3.params.toList args.toList ds p := hA0
  rw [Try.params3] at hA hval
  obtain ⟨v0, vs0, d0, ds0, p0, q0, hargs, rfl, rfl, h0, r0⟩ := trodAll_cons hA
  obtain ⟨rfl, rfl, rfl⟩ := trodAll_nil r0
  obtain rfl : args = #[v0] := by cases args; simp_all
  obtain ⟨rfl, rfl⟩ := trodVars_none hV
  obtain ⟨a, rfl, rfl, rfl, _⟩ := open_string Try.underlying9 (hval 0 9 v0 rfl rfl) h0
  clear hA0 hval0
  refine (walk W a).mono fun e W' ⟨he, hg⟩ => ?_
  subst he
  exact ⟨_, rfl, law_post laidOut (by kernel_rfl) rfl (by kernel_rfl) Try.underlying4 rfl rfl rfl hW' hg⟩

theorem over : Rows.utfTellsRow.holds Try.pinned (OpenSpec.ofChange Rows.utfTellsSpec) :=
  OpenClaim.holds_of_wide 3 Try.f3 rfl rfl rfl rfl rfl rfl rfl ⟨rfl, rfl, rfl, rfl, rfl⟩ rfl rfl rfl rfl rfl (by kernel_rfl) Try.func3 (by kernel_rfl)
    (of_decide_eq_true (by kernel_rfl)) (by unfold Func.isWrapper; first | (rw [if_pos (by decide +kernel)]; kernel_rfl) | (rw [if_neg (by decide +kernel)]; exact ⟨rfl, rfl⟩))
    (fun os started H enc _ => lifted os started H enc)

theorem proved : Rows.UtfTellsSaid := over
#print axioms proved
end Go.Proofs.Ytmbnenoajpckjaa.utfTells
