
/-
  PROVED: the law HexTakes returns true for every string, and leaves its argument as it was (Rows.HexTakesCardSaid, the tied card). Conditions: none beside the row's own (its listed tables start as the program's text lays them).
-/
import Derived.Test.YtjjhilaondbpaaaDoorHexLaid
import Derived.Test.YtjjhilaondbpaaaDoorTie
import Derived.Test.YtjjhilaondbpaaaDoorCards
import Derived.Test.YtjjhilaondbpaaaDoorLaw
import Derived.WalkKit
import Derived.ProofKit
import Derived.OpenShut
import Derived.SevenTiedAt
namespace Go.Proofs.YtjjhilaondbpaaaDoor.hexTakes
open Go.ChangeShapes Go.WideShapes Go.ChangeAt Go.RowKit
open Go.ChangeMaps (open_string shut_string)

set_option maxHeartbeats 1000000 in
theorem walk (w : World) (s : ByteArray) (ht : Tab w) : Calls Tryd.prog 4 #[.string s] w fun e w' => e = .returned (.bool true) ∧ Below w.heap.size w w' := by
  have HA := Lib.hid (hex_awake w ht)
  go_enter Tryd.func4, Tryd.ntmps4
  go_wp2_with fail
  refine HA.out.mono ?_
  rintro e w1 ⟨rfl, S1⟩
  clear HA ht
  by_cases hs : 1000 < s.size
  · go_wp2_with fail
    go_ret
    exact ⟨rfl, S1⟩
  have HT := Lib.hid (hex_take s (by omega))
  have HR := Lib.hid (ref_take s (by omega))
  have HB := byte_hexT (sbytes s)
  have HL := length_hexT (sbytes s)
  have HP : Hid (hexOk (sbytes s) = true → strOfNums (hexL (hexT (sbytes s))) = s) := fun h => by rw [hexL_hexT h, str_sbytes]
  rw [length_sbytes] at HL
  generalize hexOk (sbytes s) = ok at *
  generalize hexT (sbytes s) = zs at *
  go_wp2_with fail
  refine (HT.out _).mono ?_
  rintro e w2 ⟨v, rfl, O2, S2⟩
  have O2' := Lib.hid O2
  have S12 := S1.trans (S2.mono S1.size)
  clear HT
  go_wp2_with fail
  refine (HR.out _).mono ?_
  rintro e w3 ⟨v', rfl, O3, S3⟩
  have S13 := Lib.hid (S12.trans (S3.mono S12.size))
  have O23 := O2.below S3
  obtain ⟨A, c, rfl, _, _, _, _, R2⟩ := O23.form
  obtain ⟨A', c', rfl, _, _, _, _, R3⟩ := O3.form
  have HS := Lib.hid (same_true w3 w3.heap.size A A' c c' zs.length zs rfl R2 R3)
  have HQ := Lib.hid (hex_put w3 A c zs HB R2 (by omega))
  clear O2' O2 O3 O23 S1 S2 S3 S12 R2 R3 HR
  cases ok with
  | true =>
    have HE := Lib.hid (HP.out rfl)
    rw [HE.out] at HQ
    go_wp2_with (first
      | (go_at_call 11; with_reducible refine HS.out.mono ?_; rintro e w' ⟨rfl, rfl⟩)
      | (go_at_call 7; with_reducible refine HQ.out.mono ?_; rintro e w' ⟨rfl, S4⟩))
    trace_state
    go_ret
    exact ⟨rfl, S13.out.trans (S4.mono S13.out.size)⟩
  | false =>
    go_wp2_with (go_at_call 11; with_reducible refine HS.out.mono ?_; rintro e w' ⟨rfl, rfl⟩)
    go_ret
    exact ⟨rfl, S13.out⟩

set_option maxRecDepth 100000 in
theorem lifted (os : Os) (started : os.Started) (H : Type) (enc : TypeId × Value → H) :
    ReturnsInHanded {} Tryd.checked os 4 .any (fun w args => (Rows.hexTakesSpec.pre enc Tryd.prog Tryd.f4 [] false w args ∧ laidMetH Tryd.prog laid3 w) ∧ sizedMet enc Tryd.prog Tryd.f4 (OpenSpec.ofChange Rows.hexTakesSpec) false w args)
      (Rows.hexTakesSpec.post enc Tryd.prog Tryd.f4 false true false false) := by
  refine returnsInHanded_of_change_and (C := Tryd.checked) (X := fun w _ => laidMetH Tryd.prog laid3 w) (fun _ _ _ hh h => h.of_heap hh) own started (by kernel_rfl) Tryd.func4
    (ChangeSpec.witness_shaped (enc := enc) (C := Tryd.checked) (os := os) (X := fun w _ => laidMetH Tryd.prog laid3 w) false (World.doorLaid Tryd.prog 400 os) #[.string ⟨#[]⟩] 8 rfl (World.shaped_of_RefB (by kernel_rfl) (by kernel_rfl)) (by kernel_rfl) (by kernel_rfl) (by kernel_rfl) (door_met3 os _)) ?_
  intro W base args ds gs before hval0 hW _ _ hL _
  have hval : ∀ (j : Nat) t v, Tryd.f4.params[j]? = some t → args[j]? = some v → Value.okWide Tryd.prog W .any base t v := hval0
  have hlt := hW.lt
  have hW' := hW
  obtain ⟨p, q, hA0, hV, hpq, _, _⟩ := hW
  have hA : DataW.TrodAll enc Tryd.prog W 0 (fun _ => true) true Tryd.f4.params.toList args.toList ds p := hA0
  rw [Tryd.params4] at hA hval
  obtain ⟨v0, vs0, d0, ds0, p0, q0, hargs, rfl, rfl, h0, r0⟩ := trodAll_cons hA
  obtain ⟨rfl, rfl, rfl⟩ := trodAll_nil r0
  obtain rfl : args = #[v0] := by cases args; simp_all
  obtain ⟨rfl, rfl⟩ := trodVars_none hV
  obtain ⟨a, rfl, _, _, _⟩ := open_string Tryd.underlying9 (hval 0 9 v0 rfl rfl) h0
  refine (walk W a (tab_of_laid hL)).mono fun e W' ⟨he, hbl⟩ => ?_
  subst he
  exact ⟨_, rfl, law_post laidOut (by kernel_rfl) rfl (by kernel_rfl) Tryd.underlying4 rfl rfl rfl hW' hbl⟩

theorem over : Rows.hexTakesRow.holds Tryd.pinned (OpenSpec.ofChange Rows.hexTakesSpec) :=
  OpenClaim.holds_of_wide 4 Tryd.f4 rfl rfl rfl rfl rfl rfl rfl ⟨rfl, rfl, rfl, rfl, rfl⟩ rfl rfl rfl rfl rfl (by kernel_rfl) Tryd.func4 (by kernel_rfl)
    (of_decide_eq_true (by kernel_rfl)) (by unfold Func.isWrapper; first | (rw [if_pos (by decide +kernel)]; kernel_rfl) | (rw [if_neg (by decide +kernel)]; exact ⟨rfl, rfl⟩))
    (fun os started H enc _ => lifted os started H enc)

/-- The statement: the tied card. -/
theorem proved : Rows.HexTakesCardSaid :=
  Claim7.holds_tied_plain_at .later [] [.data, .data, .data] true Rows.hexTakesCard.stood.harness false
    over (fun _ h => by cases h) (by kernel_rfl) (fun _ h => by cases h) hexTakes_row_tie rfl ⟨rfl, rfl⟩ (by kernel_rfl) rfl
    (fun f fn hf hfn => by
      obtain rfl : f = 4 := Option.some.inj ((show Tryd.prog.funcNamed "ullage/ullagelaw05.HexTakes" = some 4 by kernel_rfl).symm.trans hf) |>.symm
      obtain rfl : fn = Tryd.f4 := (Option.some.inj (Tryd.func4.symm.trans hfn)).symm
      exact ⟨by kernel_rfl, fun j t ht => by
        rw [Tryd.params4] at ht
        have hm : t ∈ [9] := by simpa using Array.mem_of_getElem? ht
        have hall : ([9].all fun u => !Tryd.prog.wantsStandIn u) = true := by kernel_rfl
        exact (show Tryd.prog.wantsStandIn t = false by simpa using List.all_eq_true.1 hall t hm)⟩)
    (by kernel_rfl)
#print axioms proved
end Go.Proofs.YtjjhilaondbpaaaDoor.hexTakes
