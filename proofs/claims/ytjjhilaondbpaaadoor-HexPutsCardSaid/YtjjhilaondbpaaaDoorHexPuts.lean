
/-
  PROVED: the law HexPuts returns true for all bytes and every number of most bytes, and leaves its arguments as they were (Rows.HexPutsCardSaid, the tied card). Conditions: none beside the row's own (its listed tables start as the program's text lays them).
-/
import Derived.Test.YtjjhilaondbpaaaDoorHexLaid
import Derived.Test.YtjjhilaondbpaaaDoorTie
import Derived.Test.YtjjhilaondbpaaaDoorCards
import Derived.Test.YtjjhilaondbpaaaDoorLaw
import Derived.WalkKit
import Derived.ProofKit
import Derived.OpenShut
import Derived.SevenTiedAt
namespace Go.Proofs.YtjjhilaondbpaaaDoor.hexPuts
open Go.ChangeShapes Go.WideShapes Go.ChangeAt Go.RowKit
open Go.ChangeMaps (open_string shut_string)

set_option maxHeartbeats 1000000 in
theorem walk (w : World) (A : Option Addr) (cap : Nat) (zs : List Int) (most : Int) (hb : ByteL zs) (hr : Rd w w.heap.size .u8 A zs) (hc : zs.length ≤ cap) (ht : Tab w) :
    Calls Tryd.prog 3 #[.slice A zs.length cap, .int .i64 most] w fun e w' => e = .returned (.bool true) ∧ Below w.heap.size w w' := by
  have HA := Lib.hid (hex_awake w ht)
  have HTB := Lib.hid ht
  have HR := Lib.hid hr
  go_enter Tryd.func3, Tryd.ntmps3
  clear hr ht
  go_wp2_with fail
  refine HA.out.mono ?_
  rintro e w1 ⟨rfl, S1⟩
  clear HA
  by_cases hs : 1000 < zs.length
  · go_wp2_with fail
    go_ret
    exact ⟨rfl, S1⟩
  have P1 := Lib.hid (hex_put w1 A cap zs hb (HR.out.on S1) (by omega))
  have hL := length_hexL zs
  have HT := Lib.hid (hex_take (strOfNums (hexL zs)) (by rw [strOfNums_size]; omega))
  rw [sbytes_str (byte_hexL hb), hexOk_hexL hb, hexT_hexL hb] at HT
  clear hL
  go_wp2_with fail
  refine P1.out.mono ?_
  rintro e w2 ⟨rfl, S2⟩
  have S12 := S1.trans (S2.mono S1.size)
  clear P1
  go_wp2_with fail
  refine (HT.out _).mono ?_
  rintro e w3 ⟨v, rfl, O3, S3⟩
  have S13 := S12.trans (S3.mono S12.size)
  have P2 := Lib.hid (hex_put w3 A cap zs hb (HR.out.on S13) (by omega))
  clear HT S12 S1 S2
  obtain ⟨A', c', rfl, _, _, _, _, _⟩ := O3.form
  have O3' := Lib.hid O3
  have S13' := Lib.hid S13
  clear O3 S13 S3
  go_wp2_with fail
  refine P2.out.mono ?_
  rintro e w4 ⟨rfl, S4⟩
  have S14 := S13'.out.trans (S4.mono S13'.out.size)
  have O4 := Lib.hid (O3'.out.below S4)
  have P3 := Lib.hid (ref_put w4 A cap zs hb (HR.out.on S14) (by omega))
  clear P2 S4 O3' S13'
  go_wp2_with fail
  refine P3.out.mono ?_
  rintro e w5 ⟨rfl, S5⟩
  have S15 := S14.trans (S5.mono S14.size)
  have O5 := Lib.hid (O4.out.below S5)
  have P4 := Lib.hid (hex_show w5 A cap zs most hb (HR.out.on S15) (by omega) hc (HTB.out.on S15))
  clear P3 S5 O4 S14
  go_wp2_with fail
  refine P4.out.mono ?_
  rintro e w6 ⟨rfl, S6⟩
  have S16 := S15.trans (S6.mono S15.size)
  have O6 := Lib.hid (O5.out.below S6)
  have P5 := Lib.hid (ref_show w6 A cap zs most hb (HR.out.on S16) (by omega) hc)
  clear P4 S6 O5 S15
  go_wp2_with fail
  refine P5.out.mono ?_
  rintro e w7 ⟨rfl, S7⟩
  have S17 := S16.trans (S7.mono S16.size)
  obtain ⟨A2, c2, e2, _, _, _, _, R2⟩ := (O6.out.below S7).form
  injection e2 with e3 e4 e5
  subst e3 e5
  have HS := Lib.hid (same_true w7 w7.heap.size A' A c' cap zs.length zs rfl R2 (HR.out.on S17))
  have S := Lib.hid S17
  clear P5 S7 O6 S16 S17 R2 e4
  go_wp2_with (go_at_call 11; with_reducible refine HS.out.mono ?_; rintro e w' ⟨rfl, rfl⟩)
  go_ret
  exact ⟨rfl, S.out⟩

set_option maxRecDepth 100000 in
theorem lifted (os : Os) (started : os.Started) (H : Type) (enc : TypeId × Value → H) :
    ReturnsInHanded {} Tryd.checked os 3 .any (fun w args => (Rows.hexPutsSpec.pre enc Tryd.prog Tryd.f3 [] false w args ∧ laidMetH Tryd.prog laid3 w) ∧ sizedMet enc Tryd.prog Tryd.f3 (OpenSpec.ofChange Rows.hexPutsSpec) false w args)
      (Rows.hexPutsSpec.post enc Tryd.prog Tryd.f3 false true false false) := by
  refine returnsInHanded_of_change_and (C := Tryd.checked) (X := fun w _ => laidMetH Tryd.prog laid3 w) (fun _ _ _ hh h => h.of_heap hh) own started (by kernel_rfl) Tryd.func3
    (ChangeSpec.witness_shaped (enc := enc) (C := Tryd.checked) (os := os) (X := fun w _ => laidMetH Tryd.prog laid3 w) false (World.doorLaid Tryd.prog 400 os) #[.slice none 0 0, .int .i64 0] 8 rfl (World.shaped_of_RefB (by kernel_rfl) (by kernel_rfl)) (by kernel_rfl) (by kernel_rfl) (by kernel_rfl) (door_met3 os _)) ?_
  intro W base args ds gs before hval0 hW _ _ hL _
  have hval : ∀ (j : Nat) t v, Tryd.f3.params[j]? = some t → args[j]? = some v → Value.okWide Tryd.prog W .any base t v := hval0
  have hlt := hW.lt
  have hW' := hW
  obtain ⟨p, q, hA0, hV, hpq, _, _⟩ := hW
  have hA : DataW.TrodAll enc Tryd.prog W 0 (fun _ => true) true Tryd.f3.params.toList args.toList ds p := hA0
  rw [Tryd.params3] at hA hval
  obtain ⟨v0, vs0, d0, ds0, p0, q0, hargs, rfl, rfl, h0, r0⟩ := trodAll_cons hA
  obtain ⟨v1, vs1, d1, ds1, p1, q1, rfl, rfl, rfl, h1, r1⟩ := trodAll_cons r0
  obtain ⟨rfl, rfl, rfl⟩ := trodAll_nil r1
  obtain rfl : args = #[v0, v1] := by cases args; simp_all
  obtain ⟨rfl, rfl⟩ := trodVars_none hV
  obtain ⟨A, cap, zs, rfl, hl, hcap, hnil, hr, hz⟩ := open_nums' Tryd.underlying22 Tryd.underlying5 cellsU8 (hval 0 22 v0 rfl rfl) h0 (fun x hx => hlt x (by rw [hpq]; simp [hx]))
  obtain ⟨a1, rfl, _, _, _⟩ := open_int Tryd.underlying3 (hval 1 3 v1 rfl rfl) h1
  refine (walk W A cap zs a1 (fun c hc => ?_) hr hcap (tab_of_laid hL)).mono fun e W' ⟨he, hbl⟩ => ?_
  · have : 0 ≤ c ∧ c ≤ 255 := by simpa [Lit.wf, IntKind.min, IntKind.max, IntKind.bits, IntKind.signed] using hz c hc
    omega
  · subst he
    exact ⟨_, rfl, law_post laidOut (by kernel_rfl) rfl (by kernel_rfl) Tryd.underlying4 rfl rfl rfl hW' hbl⟩

theorem over : Rows.hexPutsRow.holds Tryd.pinned (OpenSpec.ofChange Rows.hexPutsSpec) :=
  OpenClaim.holds_of_wide 3 Tryd.f3 rfl rfl rfl rfl rfl rfl rfl ⟨rfl, rfl, rfl, rfl, rfl⟩ rfl rfl rfl rfl rfl (by kernel_rfl) Tryd.func3 (by kernel_rfl)
    (of_decide_eq_true (by kernel_rfl)) (by unfold Func.isWrapper; first | (rw [if_pos (by decide +kernel)]; kernel_rfl) | (rw [if_neg (by decide +kernel)]; exact ⟨rfl, rfl⟩))
    (fun os started H enc _ => lifted os started H enc)

/-- The statement: the tied card. -/
theorem proved : Rows.HexPutsCardSaid :=
  Claim7.holds_tied_plain_at .later [] [.data, .data, .data] true Rows.hexPutsCard.stood.harness false
    over (fun _ h => by cases h) (by kernel_rfl) (fun _ h => by cases h) hexPuts_row_tie rfl ⟨rfl, rfl⟩ (by kernel_rfl) rfl
    (fun f fn hf hfn => by
      obtain rfl : f = 3 := Option.some.inj ((show Tryd.prog.funcNamed "ullage/ullagelaw05.HexPuts" = some 3 by kernel_rfl).symm.trans hf) |>.symm
      obtain rfl : fn = Tryd.f3 := (Option.some.inj (Tryd.func3.symm.trans hfn)).symm
      exact ⟨by kernel_rfl, fun j t ht => by
        rw [Tryd.params3] at ht
        have hm : t ∈ [22, 3] := by simpa using Array.mem_of_getElem? ht
        have hall : ([22, 3].all fun u => !Tryd.prog.wantsStandIn u) = true := by kernel_rfl
        exact (show Tryd.prog.wantsStandIn t = false by simpa using List.all_eq_true.1 hall t hm)⟩)
    (by kernel_rfl)
#print axioms proved
end Go.Proofs.YtjjhilaondbpaaaDoor.hexPuts
