
/-
  PROVED: the law BlakeSums returns true for every list of bytes, and leaves its argument as it was (Rows.BlakeSumsCardSaid: the tied card). Conditions: none beside the row's own; the tables blake.iv, blake.table and blake.places hold what their initialisers lay.
-/
import Derived.Test.YtgcboodlneknpaaDoorBlakeAwake
import Derived.Test.YtgcboodlneknpaaDoorBlakeS
import Derived.Test.YtgcboodlneknpaaDoorSame
import Derived.Test.YtgcboodlneknpaaDoorLaw
import Derived.Test.YtgcboodlneknpaaDoorBlakeLaid
import Derived.Test.YtgcboodlneknpaaDoorCards
import Derived.Test.YtgcboodlneknpaaDoorTie
namespace Go.Proofs.YtgcboodlneknpaaDoor.blakeSums
open Go.ChangeShapes Go.WideShapes Go.ChangeAt Go.RowKit

set_option maxHeartbeats 800000 in
theorem walk (w : World) (A : Option Addr) (cap : Nat) (zs : List Int) (hl : zs.length ≤ 9223372036854775807) (hcap : zs.length ≤ cap) (hnil : A = none → cap = 0) (hb : ByteL zs) (hr : Rd w w.heap.size .u8 A zs) (T : BTabs w) :
    Calls Tryd.prog 3 #[.slice A zs.length cap] w fun e w' => e = .returned (.bool true) ∧ Below w.heap.size w w' := by
  have HA := Lib.hid (blake_awake w T)
  by_cases hbig : 800 < zs.length
  · go_enter Tryd.func3, Tryd.ntmps3
    go_wp2_with fail
    refine HA.out.mono ?_
    rintro e w1 ⟨rfl, hb1⟩
    go_wp2_with fail
    go_ret
    exact ⟨rfl, hb1⟩
  · have hle : zs.length ≤ 800 := by omega
    clear hbig
    go_enter Tryd.func3, Tryd.ntmps3
    go_wp2_with fail
    refine HA.out.mono ?_
    rintro e w1 ⟨rfl, hb1⟩
    have hr1 := hr.on hb1
    have H1 := Lib.hid (blake_Sum w1 zs A cap (by omega) hb hcap hr1 (T.below hb1))
    clear HA hr T
    go_wp2_with fail
    refine H1.out.mono ?_
    rintro e w2 ⟨A1, c1, rfl, _, hS1, hb2⟩
    have hr2 := hr1.on hb2
    have H2 := Lib.hid (ref_BSum w2 zs A cap hle hb hr2)
    have hb12 : Below w.heap.size w w2 := hb1.trans (hb2.mono hb1.size)
    clear H1 hr1 hb1 hb2 hr2
    go_wp2_with fail
    refine H2.out.mono ?_
    rintro e w3 ⟨A2, c2, rfl, hS2, hb3⟩
    have hS1' := hS1.on hb3
    have hb13 : Below w.heap.size w w3 := hb12.trans (hb3.mono hb12.size)
    clear H2 hS1 hb12 hb3
    go_wp2_with fail
    refine (same_true w3 _ A1 A2 c1 c2 32 (blakeL zs) (length_blakeL zs) hS1' hS2).mono ?_
    rintro e w4 ⟨rfl, rfl⟩
    go_wp2_with fail
    go_ret
    exact ⟨rfl, hb13⟩

set_option maxRecDepth 100000 in
theorem lifted (os : Os) (started : os.Started) (H : Type) (enc : TypeId × Value → H) :
    ReturnsInHanded {} Tryd.checked os 3 .any (fun w args => (Rows.blakeSumsSpec.pre enc Tryd.prog Tryd.f3 [] false w args ∧ laidMetH Tryd.prog laid3 w) ∧ sizedMet enc Tryd.prog Tryd.f3 (OpenSpec.ofChange Rows.blakeSumsSpec) false w args)
      (Rows.blakeSumsSpec.post enc Tryd.prog Tryd.f3 false true false false) := by
  refine returnsInHanded_of_change_and (C := Tryd.checked) (X := fun w _ => laidMetH Tryd.prog laid3 w) (fun _ _ _ hh h => h.of_heap hh) own started (by kernel_rfl) Tryd.func3
    (ChangeSpec.witness_shaped (enc := enc) (C := Tryd.checked) (os := os) (X := fun w _ => laidMetH Tryd.prog laid3 w) false (World.doorLaid Tryd.prog 400 os) #[.slice none 0 0] 8 rfl (World.shaped_of_RefB (by kernel_rfl) (by kernel_rfl)) (by kernel_rfl) (by kernel_rfl) (by kernel_rfl) (door_met3 os _)) ?_
  intro W base args ds gs before hval0 hW _ _ hL _
  have hval : ∀ (j : Nat) t v, Tryd.f3.params[j]? = some t → args[j]? = some v → Value.okWide Tryd.prog W .any base t v := hval0
  have hlt := hW.lt
  have hW' := hW
  obtain ⟨p, q, hA0, hV, hpq, _, _⟩ := hW
  have hA : DataW.TrodAll enc Tryd.prog W 0 (fun _ => true) true Tryd.f3.params.toList args.toList ds p := hA0
  rw [Tryd.params3] at hA hval
  obtain ⟨v0, vs0, d0, ds0, p0, q0, hargs, rfl, rfl, h0, r0⟩ := trodAll_cons hA
  obtain ⟨rfl, rfl, rfl⟩ := trodAll_nil r0
  obtain rfl : args = #[v0] := by cases args; simp_all
  obtain ⟨rfl, rfl⟩ := trodVars_none hV
  obtain ⟨A, cap, zs, rfl, hl, hcap, hnil, hr, hz⟩ := open_nums' Tryd.underlying22 Tryd.underlying5 cellsB8 (hval 0 22 v0 rfl rfl) h0 (fun x hx => hlt x (by rw [hpq]; simp [hx]))
  refine (walk W A cap zs hl hcap hnil (fun c hc => ?_) hr (btabs_of_laid hL)).mono fun e W' ⟨he, hbl⟩ => ?_
  · have : 0 ≤ c ∧ c ≤ 255 := by simpa [Lit.wf, IntKind.min, IntKind.max, IntKind.bits, IntKind.signed] using hz c hc
    omega
  · subst he
    exact ⟨_, rfl, law_post laidOut (by kernel_rfl) rfl (by kernel_rfl) Tryd.underlying4 rfl rfl rfl hW' hbl⟩

theorem over : Rows.blakeSumsRow.holds Tryd.pinned (OpenSpec.ofChange Rows.blakeSumsSpec) :=
  OpenClaim.holds_of_wide 3 Tryd.f3 rfl rfl rfl rfl rfl rfl rfl ⟨rfl, rfl, rfl, rfl, rfl⟩ rfl rfl rfl rfl rfl (by kernel_rfl) Tryd.func3 (by kernel_rfl)
    (of_decide_eq_true (by kernel_rfl)) (by unfold Func.isWrapper; first | (rw [if_pos (by decide +kernel)]; kernel_rfl) | (rw [if_neg (by decide +kernel)]; exact ⟨rfl, rfl⟩))
    (fun os started H enc _ => lifted os started H enc)

/-- The statement: the tied card. -/
theorem proved : Rows.BlakeSumsCardSaid :=
  Claim7.holds_tied_plain_at .later [] [.data, .data, .data] true Rows.blakeSumsCard.stood.harness false
    over (fun _ h => by cases h) (by kernel_rfl) (fun _ h => by cases h) blakeSums_row_tie rfl ⟨rfl, rfl⟩ (by kernel_rfl) rfl
    (fun f fn hf hfn => by
      obtain rfl : f = 3 := Option.some.inj ((show Tryd.prog.funcNamed "ullage/ullagelaw03.BlakeSums" = some 3 by kernel_rfl).symm.trans hf) |>.symm
      obtain rfl : fn = Tryd.f3 := (Option.some.inj (Tryd.func3.symm.trans hfn)).symm
      exact ⟨by kernel_rfl, fun j t ht => by
        rw [Tryd.params3] at ht
        have hm : t ∈ [22] := by simpa using Array.mem_of_getElem? ht
        have hall : ([22].all fun u => !Tryd.prog.wantsStandIn u) = true := by kernel_rfl
        exact (show Tryd.prog.wantsStandIn t = false by simpa using List.all_eq_true.1 hall t hm)⟩)
    (by kernel_rfl)
end Go.Proofs.YtgcboodlneknpaaDoor.blakeSums
