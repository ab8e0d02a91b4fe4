/-
  PROVED: the law FaultTells returns true for every verdict, all texts and every number, and leaves its arguments as they were (Rows.FaultTellsCardSaid, the tied card). Conditions: none beside the row's own (its listed variables start as the program's text lays them).
-/
import Derived.Test.YtabmckjlmpajoaaDoorKBE
import Derived.Test.YtabmckjlmpajoaaDoorKBF
import Derived.Test.YtabmckjlmpajoaaDoorTie
import Derived.Test.YtabmckjlmpajoaaDoorCards
import Derived.WalkKit
import Derived.ProofKit
import Derived.OpenShut
namespace Go.Proofs.YtabmckjlmpajoaaDoor.faultTells
open Go.ChangeShapes Go.WideShapes Go.ChangeAt Go.RowKit Go.Sort

def small (ss : List ByteArray) (k : Nat) : Prop := ∀ j, j < k → (ss.getD j ByteArray.empty).size ≤ 100
theorem small_succ {ss : List ByteArray} {k : Nat} (h : small ss k) (h2 : (ss.getD k ByteArray.empty).size ≤ 100) : small ss (k + 1) := fun j hj => by
  by_cases e : j = k
  · rw [e]; exact h2
  · exact h j (by omega)

theorem cells2 {w : World} {g : Nat} {t : TypeId} {x y : Value} (h : Blk w g t #[x, y]) : w.cell? ⟨g, 0, none⟩ = some x ∧ w.cell? ⟨g, 1, none⟩ = some y := ⟨h.cell 0, h.cell 1⟩
set_option maxHeartbeats 4000000 in
set_option maxRecDepth 100000 in
theorem walk0 (w : World) (a : Int) (A : Option Addr) (cap : Nat) (ss : List ByteArray) (o : Int) (hr : RdS w w.heap.size A ss) (hE : ErrT w) :
    Calls Tryd.prog 3 #[vV 0 a, .slice A ss.length cap, .int .i64 o] w fun ev w' => ev = .returned (.bool true) ∧ Below w.heap.size w w' := by
  have HE := Lib.hid (fun W (hW : Below w.heap.size w W) => hE.on hW)
  have HRS := Lib.hid (fun W (hW : Below w.heap.size w W) => hr.below hW)
  have S0 := Lib.hid (below_alloc w (.cells #[.int .i64 0, .int .i64 a] 24))
  have HBK := Lib.hid (Blk.fresh w 24 #[.int .i64 0, .int .i64 a])
  have HA := Lib.hid (fault_awake (w.alloc (.cells #[.int .i64 0, .int .i64 a] 24)) (hE.on (below_alloc w (.cells #[.int .i64 0, .int .i64 a] 24))))
  clear hE hr
  have KE : Hid (∀ W, Calls Tryd.prog 6 #[.agg #[.int .i64 0, .int .i64 a]] W fun ev w' => ev = .returned .nilIface ∧ Below W.heap.size W w') := fun W => fault_Error_ok W a
  have KT := Lib.hid fault_At_nil
  have KC := Lib.hid fault_Code_nil
  have KI : Hid (∀ W, Calls Tryd.prog 10 #[.nilIface, .int .i64 0] W fun ev w' => ev = .returned (.bool true) ∧ w' = W) := fun W => fault_Is_nil W 0
  have KO : o ≠ 0 → Hid (∀ W, Calls Tryd.prog 10 #[.nilIface, .int .i64 o] W fun ev w' => ev = .returned (.bool false) ∧ w' = W) := fun h W => (fault_Is_nil W o).mono fun ev w' h' => ⟨by rw [h'.1]; simp [h], h'.2⟩
  unfold vV
  by_cases hs : 20 < ss.length
  · go_enter Tryd.func3, Tryd.ntmps3
    go_wp2_with (first
      | (go_at_call 5; with_reducible refine HA.out.mono ?_; rintro ev w1 ⟨rfl, b1⟩; have B1 := Lib.hid (S0.out.trans (b1.mono S0.out.size)); clear b1)
      | fail)
    go_ret
    exact ⟨rfl, B1.out⟩
  go_enter Tryd.func3, Tryd.ntmps3
  go_wp2_with (first
    | (go_at_call 5; with_reducible refine HA.out.mono ?_; rintro ev w1 ⟨rfl, b1⟩; have B1 := Lib.hid (S0.out.trans (b1.mono S0.out.size)); have BK := Lib.hid (HBK.out.on b1); obtain ⟨c0, c1⟩ := cells2 BK.out; clear b1)
    | (go_at_call 6; with_reducible refine (KE.out _).mono ?_; rintro ev w2 ⟨rfl, b2⟩; have B2 := Lib.hid (B1.out.trans (b2.mono B1.out.size)); have BK2 := Lib.hid (BK.out.on b2); clear b2 c0 c1)
    | fail)
  clear B1 BK HBK HA KE S0
  go_loop [7, 8] (fun v i => ∃ k : Nat, k ≤ ss.length ∧ i = .int .i64 k ∧ v = .nilIface) (fun _ i => ss.length - (intOf i).toNat)
  case atStart => exact ⟨0, by omega, rfl, rfl⟩
  case round =>
    obtain ⟨k, hk, rfl, rfl⟩ := hrel
    by_cases hlt : k < ss.length
    · obtain ⟨b, q, rfl, hb, c0⟩ := (HRS.out w2 B2.out).get hlt
      generalize ss.getD k ByteArray.empty = t at *
      have KW := Lib.hid (fun W => fault_Wrap_nil W t)
      by_cases ht : 100 < t.size
      · go_wp2_with fail
        go_ret
        exact ⟨rfl, B2.out⟩
      · go_wp2_with (go_at_call 7; with_reducible refine (KW.out _).mono ?_; rintro ev w' ⟨rfl, rfl⟩)
        go_round
        case rel => exact ⟨k + 1, by omega, by go_num, rfl⟩
        case measure => simp [intOf]; omega
    · obtain rfl : k = ss.length := by omega
      go_wp2_with (first
        | (go_at_call 8; with_reducible refine (KT.out _).mono ?_; rintro ev w3 ⟨rfl, b3⟩; have B3 := Lib.hid (B2.out.trans (b3.mono B2.out.size)); have BK3 := Lib.hid (BK2.out.on b3); obtain ⟨c0, c1⟩ := cells2 BK3.out; clear b3)
        | fail)
      by_cases ho : o = 0
      · subst ho
        clear KO
        go_wp2_with (first
          | (go_at_call 9; with_reducible refine (KC.out _).mono ?_; rintro ev w' ⟨rfl, rfl⟩)
          | (go_at_call 10; with_reducible refine (KI.out _).mono ?_; rintro ev w' ⟨rfl, rfl⟩)
          | fail)
        go_ret
        exact ⟨rfl, B3.out⟩
      · have KO := KO ho
        go_wp2_with (first
          | (go_at_call 9; with_reducible refine (KC.out _).mono ?_; rintro ev w' ⟨rfl, rfl⟩)
          | (go_at_call 10; with_reducible refine (KI.out _).mono ?_; rintro ev w' ⟨rfl, rfl⟩)
          | (go_at_call 10; with_reducible refine (KO.out _).mono ?_; rintro ev w' ⟨rfl, rfl⟩)
          | fail)
        go_ret
        exact ⟨rfl, B3.out⟩

theorem rd_more {w : World} {B B' : Nat} {A : Option Addr} {ss : List ByteArray} (h : RdS w B A ss) (hB : B ≤ B') : RdS w B' A ss := fun hn => by
  obtain ⟨b, o, hA, hb, hc⟩ := h hn
  exact ⟨b, o, hA, by omega, hc⟩
set_option maxHeartbeats 4000000 in
set_option maxRecDepth 100000 in
theorem walk1 (w : World) (e a : Int) (A : Option Addr) (cap : Nat) (ss : List ByteArray) (o : Int) (h0 : e ≠ 0) (he : I64 e) (ha : I64 a) (hr : RdS w w.heap.size A ss) (hE : ErrT w) (ht : Tab w) :
    Calls Tryd.prog 3 #[vV e a, .slice A ss.length cap, .int .i64 o] w fun ev w' => ev = .returned (.bool true) ∧ Below w.heap.size w w' := by
  have HE := Lib.hid (fun W (hW : Below w.heap.size w W) => hE.on hW)
  have HT := Lib.hid (fun W (hW : Below w.heap.size w W) => ht.on hW)
  have HRS := Lib.hid (fun W (hW : Below w.heap.size w W) => hr.below hW)
  have S0 := Lib.hid (below_alloc w (.cells #[.int .i64 e, .int .i64 a] 24))
  have HBK := Lib.hid (Blk.fresh w 24 #[.int .i64 e, .int .i64 a])
  have HA := Lib.hid (fault_awake (w.alloc (.cells #[.int .i64 e, .int .i64 a] 24)) (hE.on (below_alloc w (.cells #[.int .i64 e, .int .i64 a] 24))))
  have HIE := Lib.hid he
  have HIA := Lib.hid ha
  clear hE hr ht he ha
  have KE : Hid (∀ W, Calls Tryd.prog 6 #[.agg #[.int .i64 e, .int .i64 a]] W fun ev w' => ∃ fb, ev = .returned (.iface 38 (.pointer (some ⟨fb, 0, none⟩))) ∧ Chn w' fb e a [] (fltE fb) ∧ Below W.heap.size W w') := fun W => fault_Error W e a h0
  unfold vV
  by_cases hs : 20 < ss.length
  · go_enter Tryd.func3, Tryd.ntmps3
    go_wp2_with (first
      | (go_at_call 5; with_reducible refine HA.out.mono ?_; rintro ev w1 ⟨rfl, b1⟩; have B1 := Lib.hid (S0.out.trans (b1.mono S0.out.size)); clear b1)
      | fail)
    go_ret
    exact ⟨rfl, B1.out⟩
  go_enter Tryd.func3, Tryd.ntmps3
  go_wp2_with (first
    | (go_at_call 5; with_reducible refine HA.out.mono ?_; rintro ev w1 ⟨rfl, b1⟩; have B1 := Lib.hid (S0.out.trans (b1.mono S0.out.size)); have BK := Lib.hid (HBK.out.on b1); obtain ⟨c0, c1⟩ := cells2 BK.out; clear b1)
    | (go_at_call 6; with_reducible refine (KE.out _).mono ?_; rintro ev w2 ⟨fb, rfl, C2, b2⟩; have C2 := Lib.hid C2; have B2 := Lib.hid (B1.out.trans (b2.mono B1.out.size)); have BK2 := Lib.hid (BK.out.on b2); clear b2 c0 c1)
    | fail)
  clear B1 BK HBK HA KE S0
  go_loopw [7, 8] (fun v i wr => ∃ k : Nat, k ≤ ss.length ∧ i = .int .i64 k ∧ Chn wr fb e a (upR ss k) v ∧ small ss k ∧ Below w.heap.size w wr ∧ Blk wr w.heap.size 24 #[.int .i64 e, .int .i64 a]) (fun _ i _ => ss.length - (intOf i).toNat)
  case atStart => exact ⟨0, by omega, rfl, C2.out, fun j hj => by omega, B2.out, BK2.out⟩
  case round =>
    clear C2 B2 BK2
    obtain ⟨k, hk, rfl, hC, hsm, hB, hBK⟩ := hrel
    have HC := Lib.hid hC
    have HSM := Lib.hid hsm
    have HB := Lib.hid hB
    have HBK := Lib.hid hBK
    obtain ⟨T, x, rfl⟩ := hC.iface
    clear hC hsm hB hBK
    by_cases hlt : k < ss.length
    · obtain ⟨b, q, rfl, hb, c0⟩ := (HRS.out wr HB.out).get hlt
      have HU := Lib.hid (upR_succ hlt)
      have HSS := Lib.hid (fun h => small_succ HSM.out (k := k) h)
      generalize ss.getD k ByteArray.empty = t at *
      by_cases ht : 100 < t.size
      · go_wp2_with fail
        go_ret
        exact ⟨rfl, HB.out⟩
      · have KW := Lib.hid (fault_Wrap wr fb e a _ _ t HC.out)
        go_wp2_with (go_at_call 7; with_reducible refine KW.out.mono ?_; rintro ev wn ⟨bn, rfl, CN, bb⟩; have CN := Lib.hid CN; have BB := Lib.hid bb; clear bb)
        go_roundw
        case rel => exact ⟨k + 1, by omega, by go_num, by rw [HU.out]; exact CN.out, HSS.out (by omega), HB.out.trans (BB.out.mono HB.out.size), HBK.out.on BB.out⟩
        case measure => simp [intOf]; omega
    · obtain rfl : k = ss.length := by omega
      have KT := Lib.hid (fault_At wr fb e a _ _ HC.out (HE.out _ HB.out))
      go_wp2_with (first
        | (go_at_call 8; with_reducible refine KT.out.mono ?_; rintro ev w3 ⟨rfl, b3⟩; have C3 := Lib.hid (HC.out.on b3); have B3 := Lib.hid (HB.out.trans (b3.mono HB.out.size)); have BK3 := Lib.hid (HBK.out.on b3); obtain ⟨c0, c1⟩ := cells2 BK3.out; clear b3)
        | fail)
      have HUP := Lib.hid (fun dq os => B3.out.trans ((below_regrown w3 dq os).mono B3.out.size))
      have k0 := cell_regrown c0
      have k1 := cell_regrown c1
      have K2 := Lib.hid (fun dq os => Calls.regrown_of (ref_fault_text (grow (redrawn w3 dq) os) e a A cap ss (rd_more (HRS.out _ (HUP.out dq os)) (HUP.out dq os).size) HIE.out HIA.out (HT.out _ (HUP.out dq os)) (by omega) HSM.out))
      have mE1 := methodErF
      have mE2 := methodErW
      have hne : ∀ w, (Op.stringOp .neq (chnT e a (upR ss ss.length)) (chnT e a (upR ss ss.length))).run Tryd.prog w = .ok (.bool false) w := fun w => by simp [Op.stringOp]
      have hcase : (T = 38 ∧ Hid (∀ dq os, Calls Tryd.prog 12 #[.pointer (some ⟨x, 0, none⟩)] (grow (redrawn w3 dq) os) fun ev w' => ev = .returned (.string (chnT e a (upR ss ss.length))) ∧ Below (grow (redrawn w3 dq) os).heap.size (grow (redrawn w3 dq) os) w')) ∨
          (T = 45 ∧ Hid (∀ dq os, Calls Tryd.prog 58 #[.pointer (some ⟨x, 0, none⟩)] (grow (redrawn w3 dq) os) fun ev w' => ev = .returned (.string (chnT e a (upR ss ss.length))) ∧ Below (grow (redrawn w3 dq) os).heap.size (grow (redrawn w3 dq) os) w')) := by
        have hC := C3.out
        have hz := upR_small HSM.out (Nat.le_refl _)
        have hzl := upR_len ss ss.length
        revert hC hz hzl
        cases upR ss ss.length with
        | nil =>
          rintro ⟨hx, hBF⟩ _ _
          injection hx with h1 h2
          injection h2 with h2
          injection h2 with h2
          injection h2 with h2 _ _
          subst h1 h2
          exact Or.inl ⟨rfl, fun dq os => flt_text _ x e a (hBF.on (below_regrown w3 dq os)) HIE.out HIA.out (HT.out _ (HUP.out dq os))⟩
        | cons s r =>
          intro hC hz hzl
          have hC2 := hC
          obtain ⟨b, u, hx, _⟩ := hC2
          injection hx with h1 h2
          injection h2 with h2
          injection h2 with h2
          injection h2 with h2 _ _
          subst h1 h2
          exact Or.inr ⟨rfl, fun dq os => wrp_text _ fb e a s r x (hC.on (below_regrown w3 dq os)) HIE.out HIA.out (HT.out _ (HUP.out dq os)) (by simp at hzl; omega) hz⟩
      clear HC HB HBK KT c0 c1 C2
      rcases hcase with ⟨rfl, K1⟩ | ⟨rfl, K1⟩
      · have K1 := Lib.hid (fun dq os => Calls.regrown_of (K1.out dq os))
        refine wp_region_quiet_below (by kernel_rfl) (by kernel_rfl) ?_
        repeat (quiet_step (first | exact K1.out _ _ | exact K2.out _ _))
        refine wpQuiet_nil ?_
        intro _ hw'
        obtain ⟨⟨dq, osq⟩, hw''⟩ := hw'
        subst hw''
        have B4 := Lib.hid (HUP.out dq osq)
        have C4 := Lib.hid (C3.out.on (below_regrown w3 dq osq))
        have BK4 := Lib.hid (BK3.out.on (below_regrown w3 dq osq))
        clear k0 k1 K1 K2 hne mE1 mE2 HUP C3 B3 BK3
        generalize grow (redrawn w3 dq) osq = w4 at *
        go_wp2_with fail
        obtain ⟨c0, c1⟩ := cells2 BK4.out
        have HUP := Lib.hid (fun dq os => B4.out.trans ((below_regrown w4 dq os).mono B4.out.size))
        have k0 := cell_regrown c0
        have k1 := cell_regrown c1
        have K1 := Lib.hid (fun dq os => Calls.regrown_of (fault_Code (grow (redrawn w4 dq) os) fb e a _ _ (Or.inl (C4.out.on (below_regrown w4 dq os))) (HE.out _ (HUP.out dq os))))
        have K2 : Hid (∀ dq os, Calls Tryd.prog 10 #[.iface 38 (.pointer (some ⟨x, 0, none⟩)), .int .i64 e] (grow (redrawn w4 dq) os) fun ev w' => ev = .returned (.bool true) ∧ ∃ p : Regrown, w' = grow (redrawn w4 p.d) p.os) := fun dq os =>
          Calls.regrown_of ((fault_Is _ fb e a e _ _ (Or.inl (C4.out.on (below_regrown w4 dq os)))).mono fun ev w' h => ⟨by rw [h.1]; simp [h0], by rw [h.2]; exact Below.refl _ _⟩)
        by_cases hoe : o = e
        · subst hoe
          refine wp_region_quiet_below (by kernel_rfl) (by kernel_rfl) ?_
          repeat (quiet_step (first | exact K1.out _ _ | exact K2.out _ _))
          refine wpQuiet_nil ?_
          intro _ hw'
          obtain ⟨⟨dq2, osq2⟩, hw''⟩ := hw'
          subst hw''
          go_wp2_with fail
          go_ret
          exact ⟨rfl, HUP.out dq2 osq2⟩
        · have K3 : Hid (∀ dq os, Calls Tryd.prog 10 #[.iface 38 (.pointer (some ⟨x, 0, none⟩)), .int .i64 o] (grow (redrawn w4 dq) os) fun ev w' => ev = .returned (.bool false) ∧ ∃ p : Regrown, w' = grow (redrawn w4 p.d) p.os) := fun dq os =>
            Calls.regrown_of ((fault_Is _ fb e a o _ _ (Or.inl (C4.out.on (below_regrown w4 dq os)))).mono fun ev w' h => ⟨by rw [h.1]; have : (e == o) = false := by simpa using fun h => hoe h.symm
                                                                                                                              simp [this], by rw [h.2]; exact Below.refl _ _⟩)
          have hoe' : (o == e) = false := by simpa using hoe
          refine wp_region_quiet_below (by kernel_rfl) (by kernel_rfl) ?_
          repeat (quiet_step (first | with_reducible exact K1.out _ _ | with_reducible exact K2.out _ _ | with_reducible exact K3.out _ _))
          refine wpQuiet_nil ?_
          intro _ hw'
          obtain ⟨⟨dq2, osq2⟩, hw''⟩ := hw'
          subst hw''
          go_wp2_with fail
          go_ret
          exact ⟨rfl, HUP.out dq2 osq2⟩
      · have K1 := Lib.hid (fun dq os => Calls.regrown_of (K1.out dq os))
        refine wp_region_quiet_below (by kernel_rfl) (by kernel_rfl) ?_
        repeat (quiet_step (first | exact K1.out _ _ | exact K2.out _ _))
        refine wpQuiet_nil ?_
        intro _ hw'
        obtain ⟨⟨dq, osq⟩, hw''⟩ := hw'
        subst hw''
        have B4 := Lib.hid (HUP.out dq osq)
        have C4 := Lib.hid (C3.out.on (below_regrown w3 dq osq))
        have BK4 := Lib.hid (BK3.out.on (below_regrown w3 dq osq))
        clear k0 k1 K1 K2 hne mE1 mE2 HUP C3 B3 BK3
        generalize grow (redrawn w3 dq) osq = w4 at *
        go_wp2_with fail
        obtain ⟨c0, c1⟩ := cells2 BK4.out
        have HUP := Lib.hid (fun dq os => B4.out.trans ((below_regrown w4 dq os).mono B4.out.size))
        have k0 := cell_regrown c0
        have k1 := cell_regrown c1
        have K1 := Lib.hid (fun dq os => Calls.regrown_of (fault_Code (grow (redrawn w4 dq) os) fb e a _ _ (Or.inl (C4.out.on (below_regrown w4 dq os))) (HE.out _ (HUP.out dq os))))
        have K2 : Hid (∀ dq os, Calls Tryd.prog 10 #[.iface 45 (.pointer (some ⟨x, 0, none⟩)), .int .i64 e] (grow (redrawn w4 dq) os) fun ev w' => ev = .returned (.bool true) ∧ ∃ p : Regrown, w' = grow (redrawn w4 p.d) p.os) := fun dq os =>
          Calls.regrown_of ((fault_Is _ fb e a e _ _ (Or.inl (C4.out.on (below_regrown w4 dq os)))).mono fun ev w' h => ⟨by rw [h.1]; simp [h0], by rw [h.2]; exact Below.refl _ _⟩)
        by_cases hoe : o = e
        · subst hoe
          refine wp_region_quiet_below (by kernel_rfl) (by kernel_rfl) ?_
          repeat (quiet_step (first | exact K1.out _ _ | exact K2.out _ _))
          refine wpQuiet_nil ?_
          intro _ hw'
          obtain ⟨⟨dq2, osq2⟩, hw''⟩ := hw'
          subst hw''
          go_wp2_with fail
          go_ret
          exact ⟨rfl, HUP.out dq2 osq2⟩
        · have K3 : Hid (∀ dq os, Calls Tryd.prog 10 #[.iface 45 (.pointer (some ⟨x, 0, none⟩)), .int .i64 o] (grow (redrawn w4 dq) os) fun ev w' => ev = .returned (.bool false) ∧ ∃ p : Regrown, w' = grow (redrawn w4 p.d) p.os) := fun dq os =>
            Calls.regrown_of ((fault_Is _ fb e a o _ _ (Or.inl (C4.out.on (below_regrown w4 dq os)))).mono fun ev w' h => ⟨by rw [h.1]; have : (e == o) = false := by simpa using fun h => hoe h.symm
                                                                                                                              simp [this], by rw [h.2]; exact Below.refl _ _⟩)
          have hoe' : (o == e) = false := by simpa using hoe
          refine wp_region_quiet_below (by kernel_rfl) (by kernel_rfl) ?_
          repeat (quiet_step (first | with_reducible exact K1.out _ _ | with_reducible exact K2.out _ _ | with_reducible exact K3.out _ _))
          refine wpQuiet_nil ?_
          intro _ hw'
          obtain ⟨⟨dq2, osq2⟩, hw''⟩ := hw'
          subst hw''
          go_wp2_with fail
          go_ret
          exact ⟨rfl, HUP.out dq2 osq2⟩

theorem cells_string : Tryd.prog.cellsOf 9 = 1 := by kernel_rfl
theorem walk (w : World) (e a : Int) (A : Option Addr) (cap : Nat) (ss : List ByteArray) (o : Int) (he : I64 e) (ha : I64 a) (hr : RdS w w.heap.size A ss) (hE : ErrT w) (ht : Tab w) :
    Calls Tryd.prog 3 #[.agg #[.int .i64 e, .int .i64 a], .slice A ss.length cap, .int .i64 o] w fun ev w' => ev = .returned (.bool true) ∧ Below w.heap.size w w' := by
  by_cases h0 : e = 0
  · subst h0
    exact walk0 w a A cap ss o hr hE
  · exact walk1 w e a A cap ss o h0 he ha hr hE ht

set_option maxRecDepth 100000 in
theorem lifted (os : Os) (started : os.Started) (H : Type) (enc : TypeId × Value → H) :
    ReturnsInHanded {} Tryd.checked os 3 .any (fun w args => (Rows.faultTellsSpec.pre enc Tryd.prog Tryd.f3 [] false w args ∧ laidMetH Tryd.prog laid4 w) ∧ sizedMet enc Tryd.prog Tryd.f3 (OpenSpec.ofChange Rows.faultTellsSpec) false w args)
      (Rows.faultTellsSpec.post enc Tryd.prog Tryd.f3 false true false false) := by
  refine returnsInHanded_of_change_and (C := Tryd.checked) (X := fun w _ => laidMetH Tryd.prog laid4 w) (fun _ _ _ hh h => h.of_heap hh) own started (by kernel_rfl) Tryd.func3
    (ChangeSpec.witness_shaped (enc := enc) (C := Tryd.checked) (os := os) (X := fun w _ => laidMetH Tryd.prog laid4 w) false (World.doorLaid Tryd.prog 400 os) #[.agg #[.int .i64 0, .int .i64 0], .slice none 0 0, .int .i64 0] 8 rfl (World.shaped_of_RefB (by kernel_rfl) (by kernel_rfl)) (by kernel_rfl) (by kernel_rfl) (by kernel_rfl) (door_met4 os _)) ?_
  intro W base args ds gs before hval0 hW _ _ hL _
  have hval : ∀ (j : Nat) t v, Tryd.f3.params[j]? = some t → args[j]? = some v → Value.okWide Tryd.prog W .any base t v := hval0
  have hlt := hW.lt
  have hW' := hW
  obtain ⟨p, q, hA0, hV, hpq, _, _⟩ := hW
  have hA : DataW.TrodAll enc Tryd.prog W 0 (fun _ => true) true Tryd.f3.params.toList args.toList ds p := hA0
  rw [Tryd.params3] at hA hval
  obtain ⟨v0, vs0, d0, ds0, p0, q0, hargs, rfl, rfl, h0, r0⟩ := trodAll_cons hA
  obtain ⟨v1, vs1, d1, ds1, p1, q1, rfl, rfl, rfl, h1, r1⟩ := trodAll_cons r0
  obtain ⟨v2, vs2, d2, ds2, p2, q2, rfl, rfl, rfl, h2, r2⟩ := trodAll_cons r1
  obtain ⟨rfl, rfl, rfl⟩ := trodAll_nil r2
  obtain rfl : args = #[v0, v1, v2] := by cases args; simp_all
  obtain ⟨rfl, rfl⟩ := trodVars_none hV
  obtain ⟨e0, a0, rfl, we, wa⟩ := open_verdict (hval 0 24 v0 rfl rfl) h0
  obtain ⟨A, cap, ss, rfl, hl, hr, hws⟩ := open_texts Tryd.underlying25 Tryd.underlying9 cells_string (hval 1 25 v1 rfl rfl) h1 (fun x hx => hlt x (by rw [hpq]; simp [hx]))
  obtain ⟨o0, rfl, _, _, _⟩ := open_int Tryd.underlying22 (hval 2 22 v2 rfl rfl) h2
  refine (walk W e0 a0 A cap ss o0 (i64_of_wf we) (i64_of_wf wa) hr (err_of_laid hL) (tab_of_laid hL)).mono fun e W' ⟨he, hbl⟩ => ?_
  subst he
  exact ⟨_, rfl, law_post laidOut (by kernel_rfl) rfl (by kernel_rfl) Tryd.underlying4 rfl rfl rfl hW' hbl⟩

theorem over : Rows.faultTellsRow.holds Tryd.pinned (OpenSpec.ofChange Rows.faultTellsSpec) :=
  OpenClaim.holds_of_wide 3 Tryd.f3 rfl rfl rfl rfl rfl rfl rfl ⟨rfl, rfl, rfl, rfl, rfl⟩ rfl rfl rfl rfl rfl (by kernel_rfl) Tryd.func3 (by kernel_rfl)
    (of_decide_eq_true (by kernel_rfl)) (by unfold Func.isWrapper; first | (rw [if_pos (by decide +kernel)]; kernel_rfl) | (rw [if_neg (by decide +kernel)]; exact ⟨rfl, rfl⟩))
    (fun os started H enc _ => lifted os started H enc)

/-- The statement: the tied card. -/
theorem proved : Rows.FaultTellsCardSaid :=
  Claim7.holds_tied_plain_at .later [] [.data, .data, .data, .handle] true Rows.faultTellsCard.stood.harness true
    over (fun _ h => by cases h) (by kernel_rfl) (fun _ h => by cases h) faultTells_row_tie rfl ⟨rfl, rfl⟩ (by kernel_rfl) rfl
    (fun f fn hf hfn => by
      obtain rfl : f = 3 := Option.some.inj ((show Tryd.prog.funcNamed "ullage/ullagelaw12.FaultTells" = some 3 by kernel_rfl).symm.trans hf) |>.symm
      obtain rfl : fn = Tryd.f3 := (Option.some.inj (Tryd.func3.symm.trans hfn)).symm
      exact ⟨by kernel_rfl, fun j t ht => by
        rw [Tryd.params3] at ht
        have hm : t ∈ [24, 25, 22] := by simpa using Array.mem_of_getElem? ht
        have hall : ([24, 25, 22].all fun u => !Tryd.prog.wantsStandIn u) = true := by kernel_rfl
        exact (show Tryd.prog.wantsStandIn t = false by simpa using List.all_eq_true.1 hall t hm)⟩)
    (by kernel_rfl)
#print axioms proved
end Go.Proofs.YtabmckjlmpajoaaDoor.faultTells
