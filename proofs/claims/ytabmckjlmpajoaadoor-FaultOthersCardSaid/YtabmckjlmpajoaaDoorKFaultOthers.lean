/-
  PROVED: the law FaultOthers returns true for every number, and leaves its argument as it was (Rows.FaultOthersCardSaid, the tied card). Conditions: none beside the row's own (its listed variables start as the program's text lays them).
-/
import Derived.Test.YtabmckjlmpajoaaDoorKBE
import Derived.Test.YtabmckjlmpajoaaDoorTie
import Derived.Test.YtabmckjlmpajoaaDoorCards
import Derived.WalkKit
import Derived.ProofKit
import Derived.OpenShut
namespace Go.Proofs.YtabmckjlmpajoaaDoor.faultOthers
open Go.ChangeShapes Go.WideShapes Go.ChangeAt Go.RowKit Go.Sort

theorem nil_text (w : World) : Calls Tryd.prog 12 #[.pointer none] w fun ev w' => ev = .returned (.string ⟨#[]⟩) ∧ w' = w := by
  go_enter Tryd.func12, Tryd.ntmps12
  go_wp2_with fail
  go_ret
  exact ⟨rfl, rfl⟩
theorem nil_unwrap (w : World) : Calls Tryd.prog 13 #[.pointer none] w fun ev w' => ev = .returned .nilIface ∧ w' = w := by
  go_enter Tryd.func13, Tryd.ntmps13
  go_wp2_with fail
  go_ret
  exact ⟨rfl, rfl⟩

set_option maxHeartbeats 4000000 in
set_option maxRecDepth 100000 in
theorem walk (w : World) (e : Int) (hE : ErrT w) :
    Calls Tryd.prog 4 #[.int .i64 e] w fun ev w' => ev = .returned (.bool true) ∧ Below w.heap.size w w' := by
  have HE := Lib.hid (fun W (hW : Below w.heap.size w W) => hE.on hW)
  have HA := Lib.hid (fault_awake w hE)
  have KA : Hid (∀ W, Below w.heap.size w W → Calls Tryd.prog 8 #[.iface 22 (.int .i64 e)] W fun ev w' => ev = .returned (.tuple #[.int .i64 0, .bool false]) ∧ Below W.heap.size W w') := fun W hW => fault_At_num W e (HE.out W hW)
  clear hE
  go_enter Tryd.func4, Tryd.ntmps4
  go_wp2_with (first
    | (go_at_call 5; with_reducible refine HA.out.mono ?_; rintro ev w1 ⟨rfl, b1⟩; have B1 := Lib.hid b1; clear b1)
    | (go_at_call 8; with_reducible refine (KA.out _ B1.out).mono ?_; rintro ev w2 ⟨rfl, b2⟩; have B2 := Lib.hid (B1.out.trans (b2.mono B1.out.size)); clear b2)
    | fail)
  have C0 : Chn (w2.alloc (.cells #[.int .i64 e, .int .i64 3] 40)) w2.heap.size e 3 [] (fltE w2.heap.size) := ⟨rfl, Blk.fresh _ _ _⟩
  have B3 := Lib.hid (B2.out.trans ((below_alloc w2 (.cells #[.int .i64 e, .int .i64 3] 40)).mono B2.out.size))
  generalize w2.alloc (.cells #[.int .i64 e, .int .i64 3] 40) = w3 at *
  generalize w2.heap.size = fb at *
  clear B1 B2 KA HA
  have HEW := Lib.hid (fun W (hW : Below w3.heap.size w3 W) => HE.out W (B3.out.trans (hW.mono B3.out.size)))
  have KA : Hid (∀ W, Below w3.heap.size w3 W → Calls Tryd.prog 8 #[.iface 38 (.pointer (some ⟨fb, 0, none⟩))] W fun ev w' => ev = .returned (.tuple #[.int .i64 3, .bool true]) ∧ Below W.heap.size W w') := fun W hW => fault_At W fb e 3 [] _ (C0.on hW) (HEW.out W hW)
  have KCn : Hid (∀ W, Below w3.heap.size w3 W → Calls Tryd.prog 9 #[.iface 22 (.int .i64 e)] W fun ev w' => ev = .returned (.int .i64 e) ∧ Below W.heap.size W w') := fun W hW => fault_Code W fb e 3 [] _ (Or.inr rfl) (HEW.out W hW)
  have KCf : Hid (∀ W, Below w3.heap.size w3 W → Calls Tryd.prog 9 #[.iface 38 (.pointer (some ⟨fb, 0, none⟩))] W fun ev w' => ev = .returned (.int .i64 e) ∧ Below W.heap.size W w') := fun W hW => fault_Code W fb e 3 [] _ (Or.inl (C0.on hW)) (HEW.out W hW)
  have KCo : Hid (∀ W, Below w3.heap.size w3 W → Calls Tryd.prog 9 #[.iface 43 (.agg #[])] W fun ev w' => ev = .returned (.int .i64 10) ∧ Below W.heap.size W w') := fun W hW => fault_Code_other W _ (HEW.out W hW)
  have KI0 : Hid (∀ W, Below w3.heap.size w3 W → Calls Tryd.prog 10 #[.iface 38 (.pointer (some ⟨fb, 0, none⟩)), .int .i64 0] W fun ev w' => ev = .returned (.bool false) ∧ w' = W) := fun W hW => fault_Is W fb e 3 0 [] _ (Or.inl (C0.on hW))
  have KU : Hid (∀ W, Below w3.heap.size w3 W → Calls Tryd.prog 13 #[.pointer (some ⟨fb, 0, none⟩)] W fun ev w' => ev = .returned (.iface 22 (.int .i64 e)) ∧ w' = W) := fun W hW => flt_unwrap W fb e 3 (C0.on hW).2
  have EQ : ∀ w, (binOp .eql 28 (.iface 22 (.int .i64 e)) (.iface 22 (.int .i64 e))).run Tryd.prog w = .ok (.bool true) w := fun w => by rw [eqNN]; simp
  have S3 := Lib.hid (Below.refl w3.heap.size w3)
  by_cases h0 : e = 0
  · clear C0 HE
    subst h0
    go_wp2_with (first
      | (go_at_call 8; with_reducible refine (KA.out _ S3.out).mono ?_; rintro ev w4 ⟨rfl, b⟩; have S4 := Lib.hid (S3.out.trans (b.mono S3.out.size)); clear b)
      | (go_at_call 12; with_reducible refine (nil_text _).mono ?_; rintro ev w' ⟨rfl, rfl⟩)
      | (go_at_call 13; with_reducible refine (nil_unwrap _).mono ?_; rintro ev w' ⟨rfl, rfl⟩)
      | (go_at_call 13; with_reducible refine (KU.out _ S6.out).mono ?_; rintro ev w' ⟨rfl, rfl⟩)
      | (go_at_call 9; with_reducible refine (KCn.out _ S4.out).mono ?_; rintro ev w5 ⟨rfl, b⟩; have S5 := Lib.hid (S4.out.trans (b.mono S4.out.size)); clear b)
      | (go_at_call 9; with_reducible refine (KCf.out _ S5.out).mono ?_; rintro ev w6 ⟨rfl, b⟩; have S6 := Lib.hid (S5.out.trans (b.mono S5.out.size)); clear b)
      | (go_at_call 10; with_reducible refine (KI0.out _ S6.out).mono ?_; rintro ev w' ⟨rfl, rfl⟩)
      | (go_at_call 9; with_reducible refine (KCo.out _ S6.out).mono ?_; rintro ev w7 ⟨rfl, b⟩; have S7 := Lib.hid (S6.out.trans (b.mono S6.out.size)); clear b)
      | fail)
    go_ret
    exact ⟨rfl, B3.out.trans (S7.out.mono B3.out.size)⟩
  · have KI : Hid (∀ W, Below w3.heap.size w3 W → Calls Tryd.prog 10 #[.iface 38 (.pointer (some ⟨fb, 0, none⟩)), .int .i64 e] W fun ev w' => ev = .returned (.bool true) ∧ w' = W) := fun W hW => (fault_Is W fb e 3 e [] _ (Or.inl (C0.on hW))).mono fun ev w' h => ⟨by rw [h.1]; simp [h0], h.2⟩
    clear C0 HE
    go_wp2_with (first
      | (go_at_call 8; with_reducible refine (KA.out _ S3.out).mono ?_; rintro ev w4 ⟨rfl, b⟩; have S4 := Lib.hid (S3.out.trans (b.mono S3.out.size)); clear b)
      | (go_at_call 12; with_reducible refine (nil_text _).mono ?_; rintro ev w' ⟨rfl, rfl⟩)
      | (go_at_call 13; with_reducible refine (nil_unwrap _).mono ?_; rintro ev w' ⟨rfl, rfl⟩)
      | (go_at_call 13; with_reducible refine (KU.out _ S6.out).mono ?_; rintro ev w' ⟨rfl, rfl⟩)
      | (go_at_call 9; with_reducible refine (KCn.out _ S4.out).mono ?_; rintro ev w5 ⟨rfl, b⟩; have S5 := Lib.hid (S4.out.trans (b.mono S4.out.size)); clear b)
      | (go_at_call 9; with_reducible refine (KCf.out _ S5.out).mono ?_; rintro ev w6 ⟨rfl, b⟩; have S6 := Lib.hid (S5.out.trans (b.mono S5.out.size)); clear b)
      | (go_at_call 10; with_reducible refine (KI0.out _ S6.out).mono ?_; rintro ev w' ⟨rfl, rfl⟩)
      | (go_at_call 10; with_reducible refine (KI.out _ S6.out).mono ?_; rintro ev w' ⟨rfl, rfl⟩)
      | (go_at_call 9; with_reducible refine (KCo.out _ S6.out).mono ?_; rintro ev w7 ⟨rfl, b⟩; have S7 := Lib.hid (S6.out.trans (b.mono S6.out.size)); clear b)
      | fail)
    go_ret
    exact ⟨rfl, B3.out.trans (S7.out.mono B3.out.size)⟩

set_option maxRecDepth 100000 in
theorem lifted (os : Os) (started : os.Started) (H : Type) (enc : TypeId × Value → H) :
    ReturnsInHanded {} Tryd.checked os 4 .any (fun w args => (Rows.faultOthersSpec.pre enc Tryd.prog Tryd.f4 [] false w args ∧ laidMetH Tryd.prog laid4 w) ∧ sizedMet enc Tryd.prog Tryd.f4 (OpenSpec.ofChange Rows.faultOthersSpec) false w args)
      (Rows.faultOthersSpec.post enc Tryd.prog Tryd.f4 false true false false) := by
  refine returnsInHanded_of_change_and (C := Tryd.checked) (X := fun w _ => laidMetH Tryd.prog laid4 w) (fun _ _ _ hh h => h.of_heap hh) own started (by kernel_rfl) Tryd.func4
    (ChangeSpec.witness_shaped (enc := enc) (C := Tryd.checked) (os := os) (X := fun w _ => laidMetH Tryd.prog laid4 w) false (World.doorLaid Tryd.prog 400 os) #[.int .i64 0] 8 rfl (World.shaped_of_RefB (by kernel_rfl) (by kernel_rfl)) (by kernel_rfl) (by kernel_rfl) (by kernel_rfl) (door_met4 os _)) ?_
  intro W base args ds gs before hval0 hW _ _ hL _
  have hval : ∀ (j : Nat) t v, Tryd.f4.params[j]? = some t → args[j]? = some v → Value.okWide Tryd.prog W .any base t v := hval0
  have hlt := hW.lt
  have hW' := hW
  obtain ⟨p, q, hA0, hV, hpq, _, _⟩ := hW
  have hA : DataW.TrodAll enc Tryd.prog W 0 (fun _ => true) true Tryd.f4.params.toList args.toList ds p := hA0
  rw [Tryd.params4] at hA hval
  obtain ⟨v0, vs0, d0, ds0, p0, q0, hargs, rfl, rfl, h0, r0⟩ := trodAll_cons hA
  obtain ⟨rfl, rfl, rfl⟩ := trodAll_nil r0
  obtain rfl : args = #[v0] := by cases args; simp_all
  obtain ⟨rfl, rfl⟩ := trodVars_none hV
  obtain ⟨a0, rfl, rfl, rfl, w0⟩ := open_int Tryd.underlying22 (hval 0 22 v0 rfl rfl) h0
  refine (walk W a0 (err_of_laid hL)).mono fun e W' ⟨he, hbl⟩ => ?_
  subst he
  exact ⟨_, rfl, law_post laidOut (by kernel_rfl) rfl (by kernel_rfl) Tryd.underlying4 rfl rfl rfl hW' hbl⟩

theorem over : Rows.faultOthersRow.holds Tryd.pinned (OpenSpec.ofChange Rows.faultOthersSpec) :=
  OpenClaim.holds_of_wide 4 Tryd.f4 rfl rfl rfl rfl rfl rfl rfl ⟨rfl, rfl, rfl, rfl, rfl⟩ rfl rfl rfl rfl rfl (by kernel_rfl) Tryd.func4 (by kernel_rfl)
    (of_decide_eq_true (by kernel_rfl)) (by unfold Func.isWrapper; first | (rw [if_pos (by decide +kernel)]; kernel_rfl) | (rw [if_neg (by decide +kernel)]; exact ⟨rfl, rfl⟩))
    (fun os started H enc _ => lifted os started H enc)

/-- The statement: the tied card. -/
theorem proved : Rows.FaultOthersCardSaid :=
  Claim7.holds_tied_plain_at .later [] [.data, .data, .data, .handle] true Rows.faultOthersCard.stood.harness true
    over (fun _ h => by cases h) (by kernel_rfl) (fun _ h => by cases h) faultOthers_row_tie rfl ⟨rfl, rfl⟩ (by kernel_rfl) rfl
    (fun f fn hf hfn => by
      obtain rfl : f = 4 := Option.some.inj ((show Tryd.prog.funcNamed "ullage/ullagelaw12.FaultOthers" = some 4 by kernel_rfl).symm.trans hf) |>.symm
      obtain rfl : fn = Tryd.f4 := (Option.some.inj (Tryd.func4.symm.trans hfn)).symm
      exact ⟨by kernel_rfl, fun j t ht => by
        rw [Tryd.params4] at ht
        have hm : t ∈ [22] := by simpa using Array.mem_of_getElem? ht
        have hall : ([22].all fun u => !Tryd.prog.wantsStandIn u) = true := by kernel_rfl
        exact (show Tryd.prog.wantsStandIn t = false by simpa using List.all_eq_true.1 hall t hm)⟩)
    (by kernel_rfl)
#print axioms proved
end Go.Proofs.YtabmckjlmpajoaaDoor.faultOthers
