
/- The document's Great, Depth. -/
import Derived.Test.YtobolfnokjekcaaItemF
namespace Go.Proofs.Ytobolfnokjekcaa
open Go.RowKit

noncomputable def greatB (x : It) : Bool := overB 80 x || decide (200 < x.count)
set_option maxRecDepth 100000 in
set_option maxHeartbeats 2000000 in
theorem ref_Great (x : It) (A : Option Addr) (cap n : Nat) (w : World) (hc : x.count ≤ 1099511627775) (hn : n ≤ w.heap.size) (h : AtB w n x A cap) :
    Calls Try.prog 6 #[vI x A cap] w fun e w' => e = .returned (.bool (greatB x)) ∧ Below w.heap.size w w' := by
  obtain ⟨w1, hw1, b1, S⟩ := iblk1 w 25 #[.int .i64 x.k, .int .u64 x.n, .string x.s, .slice A x.l.length cap]
  obtain ⟨p0, p1, p2, p3, -⟩ := iblk b1
  have C1 := fun w' (hb : Below w.heap.size w w') => ref_over 80 x A cap w' (by omega) (by omega) (h.keep (hb.mono hn)).toV
  have C2 := fun w' (hb : Below w.heap.size w w') => ref_Items x.count x A cap n 1 w' (Nat.le_refl _) (by omega) (Nat.le_trans hn hb.size) (h.keep (hb.mono hn))
  have hL : RowKit.Hid ((its x 1).length = x.count) := Lib.hid (length_its x 1)
  have HP : RowKit.Hid (0 < x.count) := Lib.hid (count_pos x)
  unfold greatB
  obtain ⟨r, hr⟩ : ∃ r, overB 80 x = r := ⟨_, rfl⟩
  obtain ⟨m, hm⟩ : ∃ m, x.count = m := ⟨_, rfl⟩
  rw [hr] at C1 ⊢
  rw [hm] at hL HP ⊢
  have HC1 := Lib.hid C1
  have HC2 := Lib.hid C2
  have HS := Lib.hid S
  clear C1 C2 S h hc hn hr hm b1
  go_enter Try.func6, Try.ntmps6
  simp only [vI] at HC1 HC2 ⊢
  cases r
  · go_wp2_with (first
      | (go_at_call 17; refine (HC1.out _ HS.out).mono ?_; rintro e w2 ⟨rfl, hb2⟩; have p0' := (hb2.cell (p := ⟨w.heap.size, 0, none⟩) (block_lt_of_cell p0)).trans p0; have p1' := (hb2.cell (p := ⟨w.heap.size, 1, none⟩) (block_lt_of_cell p1)).trans p1; have p2' := (hb2.cell (p := ⟨w.heap.size, 2, none⟩) (block_lt_of_cell p2)).trans p2; have p3' := (hb2.cell (p := ⟨w.heap.size, 3, none⟩) (block_lt_of_cell p3)).trans p3; have HB2 := Lib.hid (HS.out.trans (hb2.mono HS.out.size)); clear hb2)
      | (go_at_call 7; refine (HC2.out _ HB2.out).mono ?_; rintro e w3 ⟨v1, v2, rfl, hp, hb3⟩; obtain ⟨g1, cap1, rfl, -, -, -, -⟩ := hp.1.form (by rw [hL.out]; exact HP.out); rw [hL.out]; have HB3 := Lib.hid (HB2.out.trans (hb3.mono HB2.out.size)); clear hb3 hp))
    go_ret
    exact ⟨by simp; omega, HB3.out⟩
  · go_wp2_with (first
      | (go_at_call 17; refine (HC1.out _ HS.out).mono ?_; rintro e w2 ⟨rfl, hb2⟩; have HB2 := Lib.hid (HS.out.trans (hb2.mono HS.out.size)); clear hb2))
    go_ret
    exact ⟨rfl, HB2.out⟩

set_option maxRecDepth 100000 in
set_option maxHeartbeats 2000000 in
theorem ref_Depth (x : It) (A : Option Addr) (cap n : Nat) (w : World) (hc : x.count ≤ 1099511627775) (hn : n ≤ w.heap.size) (h : AtB w n x A cap) :
    Calls Try.prog 10 #[vI x A cap] w fun e w' => e = .returned (.int .i64 (x.depth : Int)) ∧ Below w.heap.size w w' := by
  obtain ⟨w1, hw1, b1, S⟩ := iblk1 w 25 #[.int .i64 x.k, .int .u64 x.n, .string x.s, .slice A x.l.length cap]
  obtain ⟨p0, p1, p2, p3, -⟩ := iblk b1
  have C2 := fun w' (hb : Below w.heap.size w w') => ref_Items x.count x A cap n 1 w' (Nat.le_refl _) (by omega) (Nat.le_trans hn hb.size) (h.keep (hb.mono hn))
  have hL : RowKit.Hid ((deps x 1).length = x.count) := Lib.hid (length_deps x 1)
  have HP : RowKit.Hid (0 < x.count) := Lib.hid (count_pos x)
  have hml : (x.count : Int) < 1099511627776 := by omega
  obtain ⟨m, hm⟩ : ∃ m, x.count = m := ⟨_, rfl⟩
  rw [hm] at hL HP hml
  have HC2 := Lib.hid C2
  have HS := Lib.hid S
  clear C2 S h hc hn hm b1
  go_enter Try.func10, Try.ntmps10
  simp only [vI] at HC2 ⊢
  go_wp2_with (first
      | (go_at_call 7; refine (HC2.out _ HS.out).mono ?_; rintro e w3 ⟨v1, v2, rfl, hp, hb3⟩; obtain ⟨g2, cap2, rfl⟩ := hp.2.head (by rw [hL.out]; exact HP.out); rw [hL.out]; have HB3 := Lib.hid (HS.out.trans (hb3.mono HS.out.size)); have HD := Lib.hid hp.2; clear hb3 hp))
  obtain ⟨L, hLL⟩ : ∃ L : List Nat, (x.items 1).map (·.1) = L := ⟨_, rfl⟩
  have hdp : deps x 1 = L.map fun d : Nat => (d : Int) := by rw [← hLL]; simp [deps]
  have hbd : ∀ d ∈ L, d ≤ m := fun d hd => by
    rw [← hLL] at hd
    obtain ⟨p, hp, rfl⟩ := List.mem_map.1 hd
    have := It.items_deep x 1 p hp
    have h1 := hL.out
    rw [length_deps] at h1
    omega
  have HDP := Lib.hid hdp
  have HBD := Lib.hid hbd
  have HLL := Lib.hid hLL
  have hLm : L.length = m := by have := hL.out; rw [hdp] at this; simpa using this
  have HLM := Lib.hid hLm
  clear hdp hbd hLL hLm p0 p1 p2 p3 hw1
  have HCELL : RowKit.Hid (∀ j d : Nat, L[j]? = some d → w3.cell? ⟨g2, j, none⟩ = some (.int .i64 (d : Int))) := Lib.hid fun j d hd => by
    have hj : j < (deps x 1).length := by
      rw [HDP.out, List.length_map]
      rcases Nat.lt_or_ge j L.length with h | h
      · exact h
      · rw [List.getElem?_eq_none h] at hd; cases hd
    have := (HD.out.at hj).1
    rw [HDP.out] at this
    rw [this]
    simp [List.getD_eq_getElem?_getD, hd]
  go_loopw [5, 6] (fun v i wr => ∃ j a : Nat, j ≤ m ∧ i = .int .i64 (j : Int) ∧ v = .int .i64 (a : Int) ∧ (a : Int) ≤ m ∧ RowKit.Hid (mostOf (L.take j) = a) ∧ wr = w3) (fun _ i _ => m - (intOf i).toNat)
  case atStart => exact ⟨0, 0, by omega, rfl, rfl, by omega, Lib.hid rfl, rfl⟩
  case round =>
    obtain ⟨j, a, hj, rfl, rfl, ha, HA, rfl⟩ := hrel
    by_cases hlt : j < m
    · obtain ⟨d, hd⟩ : ∃ d, L[j]? = some d := ⟨_, List.getElem?_eq_getElem (by rw [HLM.out]; exact hlt)⟩
      have hcell := HCELL.out j d hd
      have hdm : (d : Int) ≤ m := by
        have := HBD.out d (List.mem_of_getElem? hd)
        omega
      have HN : RowKit.Hid (mostOf (L.take (j + 1)) = max a d) := Lib.hid (by
        have hj' : j < L.length := by rw [HLM.out]; exact hlt
        rw [List.getElem?_eq_getElem hj'] at hd
        injection hd with hd
        rw [List.take_succ_eq_append_getElem hj', mostOf_snoc, HA.out, hd])
      have HDD := Lib.hid hd
      clear hd
      go_wp2
      go_roundw
      case rel => exact ⟨j + 1, max a d, by omega, by simp, by simp; split <;> omega, by omega, HN, trivial⟩
      case measure => simp [intOf]; omega
    · obtain rfl : j = m := by omega
      go_wp2
      go_ret
      have h1 : x.depth = a := by
        rw [← HA.out, ← HLM.out, List.take_length, ← HLL.out]
        rfl
      exact ⟨by rw [h1]; rfl, HB3.out⟩
end Go.Proofs.Ytobolfnokjekcaa
