/- The document's scan (layer 14): an item, given what it has. -/
import Derived.Test.YtchhbcmkhbfpoaaKAP
namespace Go.Proofs.Ytchhbcmkhbfpoaa
open Go.RowKit

theorem ref_noteI (w : World) (B g : Nat) (A : Option Addr) (cap : Nat) (L : List Int) (d k s : Int) (N : List Note) (E : List AEv) (p : Nat) (x e : Int) (hx : x = p) (h : Sn w B g A cap L d k s N E) (hB : B ≤ w.heap.size) (hn : N.length ≤ 1000000000) :
    Calls Try.prog 25 #[.pointer (some ⟨g, 0, none⟩), .int .i64 x, .int .i64 e] w fun r w' => r = .returned (.tuple #[]) ∧ Sn w' B g A cap L d k s (N ++ [(p, e)]) E ∧ Below B w w' := by
  subst hx
  exact ref_note w B g A cap L d k s N E p e h hB hn
/-- What the walk reads of a scan. -/
theorem Sn.cells {w : World} {B g : Nat} {A : Option Addr} {cap : Nat} {L : List Int} {d k s : Int} {N : List Note} {E : List AEv} (h : Sn w B g A cap L d k s N E) : w.cell? ⟨g, 0, none⟩ = some (.slice A L.length cap) ∧ w.cell? ⟨g, 1, none⟩ = some (.int .i64 d) ∧ w.cell? ⟨g, 2, none⟩ = some (.int .i64 k) ∧ w.cell? ⟨g, 3, none⟩ = some (.int .i64 s) := by
  obtain ⟨vA, vE, vV, h⟩ := h
  have := h.cells
  exact ⟨this.1, this.2.1, this.2.2.1, this.2.2.2.1⟩
set_option maxRecDepth 100000 in
set_option maxHeartbeats 4000000 in
theorem ref_Item (B g : Nat) (A : Option Addr) (cap : Nat) (L : List Int) (D K : Nat) (s : Int) (item : Nat → Nat → Bool → Sc) (a dp : Nat) (key : Bool) (hin : InnerC B g A cap L D K s item a dp) (ha : a ≤ L.length) (hL : L.length ≤ 300) (hK : K ≤ 1024) (hD : D ≤ 64) (hdp : dp ≤ 1000)
    (hb1 : a ≤ (scInner L item a dp).to) (hb2 : (scInner L item a dp).to ≤ L.length) (hb3 : (scInner L item a dp).notes.length ≤ 6 * (L.length - a) + 1) (hb4 : (scInner L item a dp).evs.length ≤ 6 * (L.length - a) + 1) (hb5 : (scInner L item a dp).ok = true → a < (scInner L item a dp).to)
    (w : World) (N : List Note) (E : List AEv) (h : Sn w B g A cap L D K s N E) (hB : B ≤ w.heap.size) (hn : N.length + 6 * (L.length - a) ≤ 890000) (he : E.length + 6 * (L.length - a) ≤ 890000) :
    Calls Try.prog 24 #[.pointer (some ⟨g, 0, none⟩), .int .i64 (a : Int), .int .i64 (dp : Int), .bool key] w fun e w' => ScP B g A cap L D K s N E (itemOf L D K (scInner L item a dp) a dp key) w e w' := by
  have HI := Lib.hid hin
  unfold InnerC ScP at HI
  have HH := Lib.hid h
  have HB := Lib.hid hB
  have HN : Hid (N.length ≤ 900000) := show _ ≤ _ by omega
  have HBD := Lib.hid (fun _ : Unit => (And.intro hn (And.intro he (And.intro hb3 (And.intro hb4 hL)))))
  have HTO := Lib.hid (fun _ : Unit => (And.intro hb1 (And.intro hb2 (And.intro ha (And.intro hK (And.intro hD hdp))))))
  have HOK := Lib.hid hb5
  have HZ := ev_zero
  unfold ev0 at HZ
  unfold ScP itemOf
  generalize scInner L item a dp = r at *
  obtain ⟨rN, rE, to, ok⟩ := r
  dsimp only at HI HBD HTO HOK hb1 hb2 hb5 ⊢
  obtain ⟨c0, c1, c2, c3⟩ := h.cells
  have iD : (dp : Int) ≤ 1000 := by omega
  have iA : (a : Int) ≤ 300 := by omega
  have iT : (to : Int) ≤ 300 := by omega
  have iK : (K : Int) ≤ 1024 := by omega
  have iA0 : (0 : Int) ≤ a := by omega
  have iK0 : (0 : Int) ≤ K := by omega
  have iT0 : (0 : Int) ≤ to := by omega
  have iAT : (a : Int) ≤ to := by omega
  have iAL : (a : Int) ≤ (L.length : Int) := by omega
  have iL : (L.length : Int) ≤ 300 := by omega
  have HOK1 : Hid (ok = true → (a : Int) < to) := fun h => by have := hb5 h; omega
  clear hin h hB hn he hb1 hb2 hb3 hb4 hb5 ha hL hK hD hdp
  by_cases hc1 : D < dp ∧ a < L.length
  · cases ok with
    | false =>
      cases key with
      | false =>
        have hif1 : (if D < dp ∧ a < L.length then [((a, 3) : Note)] else []) = [(a, 3)] := if_pos (by omega)
        have hif2 : (if false = true ∧ K < (if false = true then to else L.length) - a then [((a + K, 4) : Note)] else []) = [] := by
          rw [if_neg (fun h => by cases h.1)]
        rw [hif1, hif2]
        clear hif1 hif2
        have hd1 : (D : Int) < (dp : Int) := by omega
        have hd2 : (a : Int) < (L.length : Int) := by omega
        clear hc1
        clear HTO HOK
        go_enter Try.func24, Try.ntmps24
        go_wp2_with fail

        refine (ref_noteI w B g A cap L D K s N E a (a : Int) 3 rfl HH.out HB.out (by have := HN.out; omega)).mono ?_
        rintro e1 w1 ⟨rfl, hs1, hw1⟩
        have HB1 := Lib.hid (Nat.le_trans HB.out hw1.size)
        have HS1 := Lib.hid hs1
        have HW1 := Lib.hid hw1
        clear hs1 hw1
        go_wp2_with fail

        refine (HI.out w1 _ E HS1.out HB1.out (by have := (HBD.out ()).1; rw [List.length_append]; simp; omega) (by have := (HBD.out ()).2.1; omega)).mono ?_
        rintro e2 w2 ⟨rfl, hs2, hw2⟩
        have HB2 := Lib.hid (Nat.le_trans HB1.out hw2.size)
        have HS2 := Lib.hid hs2
        have HW2 := Lib.hid (HW1.out.trans hw2)
        obtain ⟨u0, u1, u2, u3⟩ := hs2.cells
        clear hs2 hw2 HS1 HW1 HB1 c0 c1 c2 c3
        go_wp2_with fail

        have HS3 := Lib.hid (show Sn w2 B g A cap L D K s (_ ++ []) _ by rw [List.append_nil]; exact HS2.out)
        have HB3 := HB2
        have HW3 := HW2
        obtain ⟨w3, rfl⟩ : ∃ w3, w3 = w2 := ⟨_, rfl⟩
        clear HS2 HW2 HB2
        refine bodyPost_ret (results_tmp2 rfl _ _ _) rfl ?_
        refine ⟨rfl, ?_, HW3.out⟩
        have hs := HS3.out
        simpa [List.append_assoc] using hs
      | true =>
        by_cases hc4 : K < L.length - a
        · have hif1 : (if D < dp ∧ a < L.length then [((a, 3) : Note)] else []) = [(a, 3)] := if_pos (by omega)
          have hif2 : (if true = true ∧ K < (if false = true then to else L.length) - a then [((a + K, 4) : Note)] else []) = [(a + K, 4)] := by
            rw [if_pos ⟨rfl, by rw [if_neg (by decide)]; omega⟩]
          rw [hif1, hif2]
          clear hif1 hif2
          have hcmp : (K : Int) < (L.length : Int) - (a : Int) := by omega
          have hd1 : (D : Int) < (dp : Int) := by omega
          have hd2 : (a : Int) < (L.length : Int) := by omega
          clear hc1
          clear HTO HOK
          clear hc4
          go_enter Try.func24, Try.ntmps24
          go_wp2_with fail

          refine (ref_noteI w B g A cap L D K s N E a (a : Int) 3 rfl HH.out HB.out (by have := HN.out; omega)).mono ?_
          rintro e1 w1 ⟨rfl, hs1, hw1⟩
          have HB1 := Lib.hid (Nat.le_trans HB.out hw1.size)
          have HS1 := Lib.hid hs1
          have HW1 := Lib.hid hw1
          clear hs1 hw1
          go_wp2_with fail

          refine (HI.out w1 _ E HS1.out HB1.out (by have := (HBD.out ()).1; rw [List.length_append]; simp; omega) (by have := (HBD.out ()).2.1; omega)).mono ?_
          rintro e2 w2 ⟨rfl, hs2, hw2⟩
          have HB2 := Lib.hid (Nat.le_trans HB1.out hw2.size)
          have HS2 := Lib.hid hs2
          have HW2 := Lib.hid (HW1.out.trans hw2)
          obtain ⟨u0, u1, u2, u3⟩ := hs2.cells
          clear hs2 hw2 HS1 HW1 HB1 c0 c1 c2 c3
          go_wp2_with fail

          refine (ref_noteI w2 B g A cap L D K s _ _ (a + K) ((a : Int) + (K : Int)) 4 (by omega) HS2.out HB2.out (by have := HBD.out (); (try simp only [List.length_append, List.length_singleton]); omega)).mono ?_
          rintro e3 w3 ⟨rfl, hs3, hw3⟩
          have HB3 := Lib.hid (Nat.le_trans HB2.out hw3.size)
          have HS3 := Lib.hid hs3
          have HW3 := Lib.hid (HW2.out.trans hw3)
          clear hs3 hw3 HS2 HW2 HB2 u0 u1 u2 u3
          go_wp2_with fail
          refine bodyPost_ret (results_tmp2 rfl _ _ _) rfl ?_
          refine ⟨rfl, ?_, HW3.out⟩
          have hs := HS3.out
          simpa [List.append_assoc] using hs
        · have hif1 : (if D < dp ∧ a < L.length then [((a, 3) : Note)] else []) = [(a, 3)] := if_pos (by omega)
          have hif2 : (if true = true ∧ K < (if false = true then to else L.length) - a then [((a + K, 4) : Note)] else []) = [] := by
            rw [if_neg (fun h => by have h2 := h.2; rw [if_neg (by decide)] at h2; omega)]
          rw [hif1, hif2]
          clear hif1 hif2
          have hcmp : ¬ (K : Int) < (L.length : Int) - (a : Int) := by omega
          have hd1 : (D : Int) < (dp : Int) := by omega
          have hd2 : (a : Int) < (L.length : Int) := by omega
          clear hc1
          clear HTO HOK
          clear hc4
          go_enter Try.func24, Try.ntmps24
          go_wp2_with fail

          refine (ref_noteI w B g A cap L D K s N E a (a : Int) 3 rfl HH.out HB.out (by have := HN.out; omega)).mono ?_
          rintro e1 w1 ⟨rfl, hs1, hw1⟩
          have HB1 := Lib.hid (Nat.le_trans HB.out hw1.size)
          have HS1 := Lib.hid hs1
          have HW1 := Lib.hid hw1
          clear hs1 hw1
          go_wp2_with fail

          refine (HI.out w1 _ E HS1.out HB1.out (by have := (HBD.out ()).1; rw [List.length_append]; simp; omega) (by have := (HBD.out ()).2.1; omega)).mono ?_
          rintro e2 w2 ⟨rfl, hs2, hw2⟩
          have HB2 := Lib.hid (Nat.le_trans HB1.out hw2.size)
          have HS2 := Lib.hid hs2
          have HW2 := Lib.hid (HW1.out.trans hw2)
          obtain ⟨u0, u1, u2, u3⟩ := hs2.cells
          clear hs2 hw2 HS1 HW1 HB1 c0 c1 c2 c3
          go_wp2_with fail

          have HS3 := Lib.hid (show Sn w2 B g A cap L D K s (_ ++ []) _ by rw [List.append_nil]; exact HS2.out)
          have HB3 := HB2
          have HW3 := HW2
          obtain ⟨w3, rfl⟩ : ∃ w3, w3 = w2 := ⟨_, rfl⟩
          clear HS2 HW2 HB2
          refine bodyPost_ret (results_tmp2 rfl _ _ _) rfl ?_
          refine ⟨rfl, ?_, HW3.out⟩
          have hs := HS3.out
          simpa [List.append_assoc] using hs
    | true =>
      have iAT2 := HOK1.out rfl
      cases key with
      | false =>
        have hif1 : (if D < dp ∧ a < L.length then [((a, 3) : Note)] else []) = [(a, 3)] := if_pos (by omega)
        have hif2 : (if false = true ∧ K < (if true = true then to else L.length) - a then [((a + K, 4) : Note)] else []) = [] := by
          rw [if_neg (fun h => by cases h.1)]
        rw [hif1, hif2]
        clear hif1 hif2
        have hd1 : (D : Int) < (dp : Int) := by omega
        have hd2 : (a : Int) < (L.length : Int) := by omega
        clear hc1
        clear HTO HOK
        go_enter Try.func24, Try.ntmps24
        go_wp2_with fail

        refine (ref_noteI w B g A cap L D K s N E a (a : Int) 3 rfl HH.out HB.out (by have := HN.out; omega)).mono ?_
        rintro e1 w1 ⟨rfl, hs1, hw1⟩
        have HB1 := Lib.hid (Nat.le_trans HB.out hw1.size)
        have HS1 := Lib.hid hs1
        have HW1 := Lib.hid hw1
        clear hs1 hw1
        go_wp2_with fail

        refine (HI.out w1 _ E HS1.out HB1.out (by have := (HBD.out ()).1; rw [List.length_append]; simp; omega) (by have := (HBD.out ()).2.1; omega)).mono ?_
        rintro e2 w2 ⟨rfl, hs2, hw2⟩
        have HB2 := Lib.hid (Nat.le_trans HB1.out hw2.size)
        have HS2 := Lib.hid hs2
        have HW2 := Lib.hid (HW1.out.trans hw2)
        obtain ⟨u0, u1, u2, u3⟩ := hs2.cells
        clear hs2 hw2 HS1 HW1 HB1 c0 c1 c2 c3

        have HS3 := Lib.hid (show Sn w2 B g A cap L D K s (_ ++ []) _ by rw [List.append_nil]; exact HS2.out)
        have HB3 := HB2
        have HW3 := HW2
        obtain ⟨w3, rfl⟩ : ∃ w3, w3 = w2 := ⟨_, rfl⟩
        clear HS2 HW2 HB2

        obtain ⟨vA, vE, vV, hV⟩ := HS3.out
        have u6 : w3.cell? ⟨g, 6, none⟩ = some vV := hV.cells.2.2.2.2.2.2.1
        obtain ⟨A', n', c', w4, hr, h6, h7, hs4, hw4⟩ := ev_add hV HB3.out (by have := HBD.out (); rw [List.length_append]; omega) (endEv false dp to)
        have e1 : ((to - 1 : Nat) : Int) = (to : Int) - 1 := by omega
        have e2 : (endEv false dp to).cells.toArray = #[.int .i64 3, .int .i64 0, .int .i64 0, .int .i64 (dp : Int), .int .i64 ((to : Int) - 1), .int .u64 0, .int .u8 0] := by simp [endEv, AEv.cells, e1]
        rw [e2] at hr
        clear e1 e2
        have HR := Lib.hid hr
        have HS4 := Lib.hid hs4
        have HW4 := Lib.hid (HW3.out.trans hw4)
        clear hr hs4 hw4 hV HS3 HW3 HB3
        go_wp2_with ((with_reducible refine is_append 44 rfl ?_); (with_reducible refine wpList_append_run rfl rfl HR.out ?_ ?_ ?_); (· rfl); (· rfl))
        refine bodyPost_ret (results_tmp2 rfl _ _ _) rfl ?_
        refine ⟨rfl, ?_, HW4.out⟩
        have hs := HS4.out
        simpa [List.append_assoc] using hs
      | true =>
        by_cases hc4 : K < to - a
        · have hif1 : (if D < dp ∧ a < L.length then [((a, 3) : Note)] else []) = [(a, 3)] := if_pos (by omega)
          have hif2 : (if true = true ∧ K < (if true = true then to else L.length) - a then [((a + K, 4) : Note)] else []) = [(a + K, 4)] := by
            rw [if_pos ⟨rfl, by rw [if_pos rfl]; omega⟩]
          rw [hif1, hif2]
          clear hif1 hif2
          have hcmp : (K : Int) < (to : Int) - (a : Int) := by omega
          have hd1 : (D : Int) < (dp : Int) := by omega
          have hd2 : (a : Int) < (L.length : Int) := by omega
          clear hc1
          clear HTO HOK
          clear hc4
          go_enter Try.func24, Try.ntmps24
          go_wp2_with fail

          refine (ref_noteI w B g A cap L D K s N E a (a : Int) 3 rfl HH.out HB.out (by have := HN.out; omega)).mono ?_
          rintro e1 w1 ⟨rfl, hs1, hw1⟩
          have HB1 := Lib.hid (Nat.le_trans HB.out hw1.size)
          have HS1 := Lib.hid hs1
          have HW1 := Lib.hid hw1
          clear hs1 hw1
          go_wp2_with fail

          refine (HI.out w1 _ E HS1.out HB1.out (by have := (HBD.out ()).1; rw [List.length_append]; simp; omega) (by have := (HBD.out ()).2.1; omega)).mono ?_
          rintro e2 w2 ⟨rfl, hs2, hw2⟩
          have HB2 := Lib.hid (Nat.le_trans HB1.out hw2.size)
          have HS2 := Lib.hid hs2
          have HW2 := Lib.hid (HW1.out.trans hw2)
          obtain ⟨u0, u1, u2, u3⟩ := hs2.cells
          clear hs2 hw2 HS1 HW1 HB1 c0 c1 c2 c3
          go_wp2_with fail

          refine (ref_noteI w2 B g A cap L D K s _ _ (a + K) ((a : Int) + (K : Int)) 4 (by omega) HS2.out HB2.out (by have := HBD.out (); (try simp only [List.length_append, List.length_singleton]); omega)).mono ?_
          rintro e3 w3 ⟨rfl, hs3, hw3⟩
          have HB3 := Lib.hid (Nat.le_trans HB2.out hw3.size)
          have HS3 := Lib.hid hs3
          have HW3 := Lib.hid (HW2.out.trans hw3)
          clear hs3 hw3 HS2 HW2 HB2 u0 u1 u2 u3

          obtain ⟨vA, vE, vV, hV⟩ := HS3.out
          have u6 : w3.cell? ⟨g, 6, none⟩ = some vV := hV.cells.2.2.2.2.2.2.1
          obtain ⟨A', n', c', w4, hr, h6, h7, hs4, hw4⟩ := ev_add hV HB3.out (by have := HBD.out (); rw [List.length_append]; omega) (endEv true dp to)
          have e1 : ((to - 1 : Nat) : Int) = (to : Int) - 1 := by omega
          have e2 : (endEv true dp to).cells.toArray = #[.int .i64 4, .int .i64 0, .int .i64 0, .int .i64 (dp : Int), .int .i64 ((to : Int) - 1), .int .u64 0, .int .u8 0] := by simp [endEv, AEv.cells, e1]
          rw [e2] at hr
          clear e1 e2
          have HR := Lib.hid hr
          have HS4 := Lib.hid hs4
          have HW4 := Lib.hid (HW3.out.trans hw4)
          clear hr hs4 hw4 hV HS3 HW3 HB3
          go_wp2_with ((with_reducible refine is_append 44 rfl ?_); (with_reducible refine wpList_append_run rfl rfl HR.out ?_ ?_ ?_); (· rfl); (· rfl))
          refine bodyPost_ret (results_tmp2 rfl _ _ _) rfl ?_
          refine ⟨rfl, ?_, HW4.out⟩
          have hs := HS4.out
          simpa [List.append_assoc] using hs
        · have hif1 : (if D < dp ∧ a < L.length then [((a, 3) : Note)] else []) = [(a, 3)] := if_pos (by omega)
          have hif2 : (if true = true ∧ K < (if true = true then to else L.length) - a then [((a + K, 4) : Note)] else []) = [] := by
            rw [if_neg (fun h => by have h2 := h.2; rw [if_pos rfl] at h2; omega)]
          rw [hif1, hif2]
          clear hif1 hif2
          have hcmp : ¬ (K : Int) < (to : Int) - (a : Int) := by omega
          have hd1 : (D : Int) < (dp : Int) := by omega
          have hd2 : (a : Int) < (L.length : Int) := by omega
          clear hc1
          clear HTO HOK
          clear hc4
          go_enter Try.func24, Try.ntmps24
          go_wp2_with fail

          refine (ref_noteI w B g A cap L D K s N E a (a : Int) 3 rfl HH.out HB.out (by have := HN.out; omega)).mono ?_
          rintro e1 w1 ⟨rfl, hs1, hw1⟩
          have HB1 := Lib.hid (Nat.le_trans HB.out hw1.size)
          have HS1 := Lib.hid hs1
          have HW1 := Lib.hid hw1
          clear hs1 hw1
          go_wp2_with fail

          refine (HI.out w1 _ E HS1.out HB1.out (by have := (HBD.out ()).1; rw [List.length_append]; simp; omega) (by have := (HBD.out ()).2.1; omega)).mono ?_
          rintro e2 w2 ⟨rfl, hs2, hw2⟩
          have HB2 := Lib.hid (Nat.le_trans HB1.out hw2.size)
          have HS2 := Lib.hid hs2
          have HW2 := Lib.hid (HW1.out.trans hw2)
          obtain ⟨u0, u1, u2, u3⟩ := hs2.cells
          clear hs2 hw2 HS1 HW1 HB1 c0 c1 c2 c3

          have HS3 := Lib.hid (show Sn w2 B g A cap L D K s (_ ++ []) _ by rw [List.append_nil]; exact HS2.out)
          have HB3 := HB2
          have HW3 := HW2
          obtain ⟨w3, rfl⟩ : ∃ w3, w3 = w2 := ⟨_, rfl⟩
          clear HS2 HW2 HB2

          obtain ⟨vA, vE, vV, hV⟩ := HS3.out
          have u6 : w3.cell? ⟨g, 6, none⟩ = some vV := hV.cells.2.2.2.2.2.2.1
          obtain ⟨A', n', c', w4, hr, h6, h7, hs4, hw4⟩ := ev_add hV HB3.out (by have := HBD.out (); rw [List.length_append]; omega) (endEv true dp to)
          have e1 : ((to - 1 : Nat) : Int) = (to : Int) - 1 := by omega
          have e2 : (endEv true dp to).cells.toArray = #[.int .i64 4, .int .i64 0, .int .i64 0, .int .i64 (dp : Int), .int .i64 ((to : Int) - 1), .int .u64 0, .int .u8 0] := by simp [endEv, AEv.cells, e1]
          rw [e2] at hr
          clear e1 e2
          have HR := Lib.hid hr
          have HS4 := Lib.hid hs4
          have HW4 := Lib.hid (HW3.out.trans hw4)
          clear hr hs4 hw4 hV HS3 HW3 HB3
          go_wp2_with ((with_reducible refine is_append 44 rfl ?_); (with_reducible refine wpList_append_run rfl rfl HR.out ?_ ?_ ?_); (· rfl); (· rfl))
          refine bodyPost_ret (results_tmp2 rfl _ _ _) rfl ?_
          refine ⟨rfl, ?_, HW4.out⟩
          have hs := HS4.out
          simpa [List.append_assoc] using hs
  · by_cases hd : D < dp
    · have hd1 : (D : Int) < (dp : Int) := by omega
      have hd2 : ¬ (a : Int) < (L.length : Int) := by omega
      cases ok with
      | false =>
        cases key with
        | false =>
          have hif1 : (if D < dp ∧ a < L.length then [((a, 3) : Note)] else []) = [] := if_neg (by omega)
          have hif2 : (if false = true ∧ K < (if false = true then to else L.length) - a then [((a + K, 4) : Note)] else []) = [] := by
            rw [if_neg (fun h => by cases h.1)]
          rw [hif1, hif2]
          clear hif1 hif2
          clear HTO HOK
          go_enter Try.func24, Try.ntmps24
          go_wp2_with fail

          have HS1 := Lib.hid (show Sn w B g A cap L D K s (N ++ []) E by rw [List.append_nil]; exact HH.out)
          have HB1 := HB
          have HW1 := Lib.hid (Below.refl B w)
          obtain ⟨w1, rfl⟩ : ∃ w1, w1 = w := ⟨_, rfl⟩

          refine (HI.out w1 _ E HS1.out HB1.out (by have := (HBD.out ()).1; rw [List.length_append]; simp; omega) (by have := (HBD.out ()).2.1; omega)).mono ?_
          rintro e2 w2 ⟨rfl, hs2, hw2⟩
          have HB2 := Lib.hid (Nat.le_trans HB1.out hw2.size)
          have HS2 := Lib.hid hs2
          have HW2 := Lib.hid (HW1.out.trans hw2)
          obtain ⟨u0, u1, u2, u3⟩ := hs2.cells
          clear hs2 hw2 HS1 HW1 HB1 c0 c1 c2 c3
          go_wp2_with fail

          have HS3 := Lib.hid (show Sn w2 B g A cap L D K s (_ ++ []) _ by rw [List.append_nil]; exact HS2.out)
          have HB3 := HB2
          have HW3 := HW2
          obtain ⟨w3, rfl⟩ : ∃ w3, w3 = w2 := ⟨_, rfl⟩
          clear HS2 HW2 HB2
          refine bodyPost_ret (results_tmp2 rfl _ _ _) rfl ?_
          refine ⟨rfl, ?_, HW3.out⟩
          have hs := HS3.out
          simpa [List.append_assoc] using hs
        | true =>
          by_cases hc4 : K < L.length - a
          · exfalso
            omega
          · have hif1 : (if D < dp ∧ a < L.length then [((a, 3) : Note)] else []) = [] := if_neg (by omega)
            have hif2 : (if true = true ∧ K < (if false = true then to else L.length) - a then [((a + K, 4) : Note)] else []) = [] := by
              rw [if_neg (fun h => by have h2 := h.2; rw [if_neg (by decide)] at h2; omega)]
            rw [hif1, hif2]
            clear hif1 hif2
            have hcmp : ¬ (K : Int) < (L.length : Int) - (a : Int) := by omega
            clear HTO HOK
            clear hc4
            go_enter Try.func24, Try.ntmps24
            go_wp2_with fail

            have HS1 := Lib.hid (show Sn w B g A cap L D K s (N ++ []) E by rw [List.append_nil]; exact HH.out)
            have HB1 := HB
            have HW1 := Lib.hid (Below.refl B w)
            obtain ⟨w1, rfl⟩ : ∃ w1, w1 = w := ⟨_, rfl⟩

            refine (HI.out w1 _ E HS1.out HB1.out (by have := (HBD.out ()).1; rw [List.length_append]; simp; omega) (by have := (HBD.out ()).2.1; omega)).mono ?_
            rintro e2 w2 ⟨rfl, hs2, hw2⟩
            have HB2 := Lib.hid (Nat.le_trans HB1.out hw2.size)
            have HS2 := Lib.hid hs2
            have HW2 := Lib.hid (HW1.out.trans hw2)
            obtain ⟨u0, u1, u2, u3⟩ := hs2.cells
            clear hs2 hw2 HS1 HW1 HB1 c0 c1 c2 c3
            go_wp2_with fail

            have HS3 := Lib.hid (show Sn w2 B g A cap L D K s (_ ++ []) _ by rw [List.append_nil]; exact HS2.out)
            have HB3 := HB2
            have HW3 := HW2
            obtain ⟨w3, rfl⟩ : ∃ w3, w3 = w2 := ⟨_, rfl⟩
            clear HS2 HW2 HB2
            refine bodyPost_ret (results_tmp2 rfl _ _ _) rfl ?_
            refine ⟨rfl, ?_, HW3.out⟩
            have hs := HS3.out
            simpa [List.append_assoc] using hs
      | true =>
        have iAT2 := HOK1.out rfl
        cases key with
        | false =>
          have hif1 : (if D < dp ∧ a < L.length then [((a, 3) : Note)] else []) = [] := if_neg (by omega)
          have hif2 : (if false = true ∧ K < (if true = true then to else L.length) - a then [((a + K, 4) : Note)] else []) = [] := by
            rw [if_neg (fun h => by cases h.1)]
          rw [hif1, hif2]
          clear hif1 hif2
          clear HTO HOK
          go_enter Try.func24, Try.ntmps24
          go_wp2_with fail

          have HS1 := Lib.hid (show Sn w B g A cap L D K s (N ++ []) E by rw [List.append_nil]; exact HH.out)
          have HB1 := HB
          have HW1 := Lib.hid (Below.refl B w)
          obtain ⟨w1, rfl⟩ : ∃ w1, w1 = w := ⟨_, rfl⟩

          refine (HI.out w1 _ E HS1.out HB1.out (by have := (HBD.out ()).1; rw [List.length_append]; simp; omega) (by have := (HBD.out ()).2.1; omega)).mono ?_
          rintro e2 w2 ⟨rfl, hs2, hw2⟩
          have HB2 := Lib.hid (Nat.le_trans HB1.out hw2.size)
          have HS2 := Lib.hid hs2
          have HW2 := Lib.hid (HW1.out.trans hw2)
          obtain ⟨u0, u1, u2, u3⟩ := hs2.cells
          clear hs2 hw2 HS1 HW1 HB1 c0 c1 c2 c3

          have HS3 := Lib.hid (show Sn w2 B g A cap L D K s (_ ++ []) _ by rw [List.append_nil]; exact HS2.out)
          have HB3 := HB2
          have HW3 := HW2
          obtain ⟨w3, rfl⟩ : ∃ w3, w3 = w2 := ⟨_, rfl⟩
          clear HS2 HW2 HB2

          obtain ⟨vA, vE, vV, hV⟩ := HS3.out
          have u6 : w3.cell? ⟨g, 6, none⟩ = some vV := hV.cells.2.2.2.2.2.2.1
          obtain ⟨A', n', c', w4, hr, h6, h7, hs4, hw4⟩ := ev_add hV HB3.out (by have := HBD.out (); rw [List.length_append]; omega) (endEv false dp to)
          have e1 : ((to - 1 : Nat) : Int) = (to : Int) - 1 := by omega
          have e2 : (endEv false dp to).cells.toArray = #[.int .i64 3, .int .i64 0, .int .i64 0, .int .i64 (dp : Int), .int .i64 ((to : Int) - 1), .int .u64 0, .int .u8 0] := by simp [endEv, AEv.cells, e1]
          rw [e2] at hr
          clear e1 e2
          have HR := Lib.hid hr
          have HS4 := Lib.hid hs4
          have HW4 := Lib.hid (HW3.out.trans hw4)
          clear hr hs4 hw4 hV HS3 HW3 HB3
          go_wp2_with ((with_reducible refine is_append 44 rfl ?_); (with_reducible refine wpList_append_run rfl rfl HR.out ?_ ?_ ?_); (· rfl); (· rfl))
          refine bodyPost_ret (results_tmp2 rfl _ _ _) rfl ?_
          refine ⟨rfl, ?_, HW4.out⟩
          have hs := HS4.out
          simpa [List.append_assoc] using hs
        | true =>
          by_cases hc4 : K < to - a
          · have hif1 : (if D < dp ∧ a < L.length then [((a, 3) : Note)] else []) = [] := if_neg (by omega)
            have hif2 : (if true = true ∧ K < (if true = true then to else L.length) - a then [((a + K, 4) : Note)] else []) = [(a + K, 4)] := by
              rw [if_pos ⟨rfl, by rw [if_pos rfl]; omega⟩]
            rw [hif1, hif2]
            clear hif1 hif2
            have hcmp : (K : Int) < (to : Int) - (a : Int) := by omega
            clear HTO HOK
            clear hc4
            go_enter Try.func24, Try.ntmps24
            go_wp2_with fail

            have HS1 := Lib.hid (show Sn w B g A cap L D K s (N ++ []) E by rw [List.append_nil]; exact HH.out)
            have HB1 := HB
            have HW1 := Lib.hid (Below.refl B w)
            obtain ⟨w1, rfl⟩ : ∃ w1, w1 = w := ⟨_, rfl⟩

            refine (HI.out w1 _ E HS1.out HB1.out (by have := (HBD.out ()).1; rw [List.length_append]; simp; omega) (by have := (HBD.out ()).2.1; omega)).mono ?_
            rintro e2 w2 ⟨rfl, hs2, hw2⟩
            have HB2 := Lib.hid (Nat.le_trans HB1.out hw2.size)
            have HS2 := Lib.hid hs2
            have HW2 := Lib.hid (HW1.out.trans hw2)
            obtain ⟨u0, u1, u2, u3⟩ := hs2.cells
            clear hs2 hw2 HS1 HW1 HB1 c0 c1 c2 c3
            go_wp2_with fail

            refine (ref_noteI w2 B g A cap L D K s _ _ (a + K) ((a : Int) + (K : Int)) 4 (by omega) HS2.out HB2.out (by have := HBD.out (); (try simp only [List.length_append, List.length_nil]); omega)).mono ?_
            rintro e3 w3 ⟨rfl, hs3, hw3⟩
            have HB3 := Lib.hid (Nat.le_trans HB2.out hw3.size)
            have HS3 := Lib.hid hs3
            have HW3 := Lib.hid (HW2.out.trans hw3)
            clear hs3 hw3 HS2 HW2 HB2 u0 u1 u2 u3

            obtain ⟨vA, vE, vV, hV⟩ := HS3.out
            have u6 : w3.cell? ⟨g, 6, none⟩ = some vV := hV.cells.2.2.2.2.2.2.1
            obtain ⟨A', n', c', w4, hr, h6, h7, hs4, hw4⟩ := ev_add hV HB3.out (by have := HBD.out (); rw [List.length_append]; omega) (endEv true dp to)
            have e1 : ((to - 1 : Nat) : Int) = (to : Int) - 1 := by omega
            have e2 : (endEv true dp to).cells.toArray = #[.int .i64 4, .int .i64 0, .int .i64 0, .int .i64 (dp : Int), .int .i64 ((to : Int) - 1), .int .u64 0, .int .u8 0] := by simp [endEv, AEv.cells, e1]
            rw [e2] at hr
            clear e1 e2
            have HR := Lib.hid hr
            have HS4 := Lib.hid hs4
            have HW4 := Lib.hid (HW3.out.trans hw4)
            clear hr hs4 hw4 hV HS3 HW3 HB3
            go_wp2_with ((with_reducible refine is_append 44 rfl ?_); (with_reducible refine wpList_append_run rfl rfl HR.out ?_ ?_ ?_); (· rfl); (· rfl))
            refine bodyPost_ret (results_tmp2 rfl _ _ _) rfl ?_
            refine ⟨rfl, ?_, HW4.out⟩
            have hs := HS4.out
            simpa [List.append_assoc] using hs
          · have hif1 : (if D < dp ∧ a < L.length then [((a, 3) : Note)] else []) = [] := if_neg (by omega)
            have hif2 : (if true = true ∧ K < (if true = true then to else L.length) - a then [((a + K, 4) : Note)] else []) = [] := by
              rw [if_neg (fun h => by have h2 := h.2; rw [if_pos rfl] at h2; omega)]
            rw [hif1, hif2]
            clear hif1 hif2
            have hcmp : ¬ (K : Int) < (to : Int) - (a : Int) := by omega
            clear HTO HOK
            clear hc4
            go_enter Try.func24, Try.ntmps24
            go_wp2_with fail

            have HS1 := Lib.hid (show Sn w B g A cap L D K s (N ++ []) E by rw [List.append_nil]; exact HH.out)
            have HB1 := HB
            have HW1 := Lib.hid (Below.refl B w)
            obtain ⟨w1, rfl⟩ : ∃ w1, w1 = w := ⟨_, rfl⟩

            refine (HI.out w1 _ E HS1.out HB1.out (by have := (HBD.out ()).1; rw [List.length_append]; simp; omega) (by have := (HBD.out ()).2.1; omega)).mono ?_
            rintro e2 w2 ⟨rfl, hs2, hw2⟩
            have HB2 := Lib.hid (Nat.le_trans HB1.out hw2.size)
            have HS2 := Lib.hid hs2
            have HW2 := Lib.hid (HW1.out.trans hw2)
            obtain ⟨u0, u1, u2, u3⟩ := hs2.cells
            clear hs2 hw2 HS1 HW1 HB1 c0 c1 c2 c3

            have HS3 := Lib.hid (show Sn w2 B g A cap L D K s (_ ++ []) _ by rw [List.append_nil]; exact HS2.out)
            have HB3 := HB2
            have HW3 := HW2
            obtain ⟨w3, rfl⟩ : ∃ w3, w3 = w2 := ⟨_, rfl⟩
            clear HS2 HW2 HB2

            obtain ⟨vA, vE, vV, hV⟩ := HS3.out
            have u6 : w3.cell? ⟨g, 6, none⟩ = some vV := hV.cells.2.2.2.2.2.2.1
            obtain ⟨A', n', c', w4, hr, h6, h7, hs4, hw4⟩ := ev_add hV HB3.out (by have := HBD.out (); rw [List.length_append]; omega) (endEv true dp to)
            have e1 : ((to - 1 : Nat) : Int) = (to : Int) - 1 := by omega
            have e2 : (endEv true dp to).cells.toArray = #[.int .i64 4, .int .i64 0, .int .i64 0, .int .i64 (dp : Int), .int .i64 ((to : Int) - 1), .int .u64 0, .int .u8 0] := by simp [endEv, AEv.cells, e1]
            rw [e2] at hr
            clear e1 e2
            have HR := Lib.hid hr
            have HS4 := Lib.hid hs4
            have HW4 := Lib.hid (HW3.out.trans hw4)
            clear hr hs4 hw4 hV HS3 HW3 HB3
            go_wp2_with ((with_reducible refine is_append 44 rfl ?_); (with_reducible refine wpList_append_run rfl rfl HR.out ?_ ?_ ?_); (· rfl); (· rfl))
            refine bodyPost_ret (results_tmp2 rfl _ _ _) rfl ?_
            refine ⟨rfl, ?_, HW4.out⟩
            have hs := HS4.out
            simpa [List.append_assoc] using hs
    · have hd1 : ¬ (D : Int) < (dp : Int) := by omega
      cases ok with
      | false =>
        cases key with
        | false =>
          have hif1 : (if D < dp ∧ a < L.length then [((a, 3) : Note)] else []) = [] := if_neg (by omega)
          have hif2 : (if false = true ∧ K < (if false = true then to else L.length) - a then [((a + K, 4) : Note)] else []) = [] := by
            rw [if_neg (fun h => by cases h.1)]
          rw [hif1, hif2]
          clear hif1 hif2
          clear HTO HOK
          go_enter Try.func24, Try.ntmps24
          go_wp2_with fail

          have HS1 := Lib.hid (show Sn w B g A cap L D K s (N ++ []) E by rw [List.append_nil]; exact HH.out)
          have HB1 := HB
          have HW1 := Lib.hid (Below.refl B w)
          obtain ⟨w1, rfl⟩ : ∃ w1, w1 = w := ⟨_, rfl⟩

          refine (HI.out w1 _ E HS1.out HB1.out (by have := (HBD.out ()).1; rw [List.length_append]; simp; omega) (by have := (HBD.out ()).2.1; omega)).mono ?_
          rintro e2 w2 ⟨rfl, hs2, hw2⟩
          have HB2 := Lib.hid (Nat.le_trans HB1.out hw2.size)
          have HS2 := Lib.hid hs2
          have HW2 := Lib.hid (HW1.out.trans hw2)
          obtain ⟨u0, u1, u2, u3⟩ := hs2.cells
          clear hs2 hw2 HS1 HW1 HB1 c0 c1 c2 c3
          go_wp2_with fail

          have HS3 := Lib.hid (show Sn w2 B g A cap L D K s (_ ++ []) _ by rw [List.append_nil]; exact HS2.out)
          have HB3 := HB2
          have HW3 := HW2
          obtain ⟨w3, rfl⟩ : ∃ w3, w3 = w2 := ⟨_, rfl⟩
          clear HS2 HW2 HB2
          refine bodyPost_ret (results_tmp2 rfl _ _ _) rfl ?_
          refine ⟨rfl, ?_, HW3.out⟩
          have hs := HS3.out
          simpa [List.append_assoc] using hs
        | true =>
          by_cases hc4 : K < L.length - a
          · have hif1 : (if D < dp ∧ a < L.length then [((a, 3) : Note)] else []) = [] := if_neg (by omega)
            have hif2 : (if true = true ∧ K < (if false = true then to else L.length) - a then [((a + K, 4) : Note)] else []) = [(a + K, 4)] := by
              rw [if_pos ⟨rfl, by rw [if_neg (by decide)]; omega⟩]
            rw [hif1, hif2]
            clear hif1 hif2
            have hcmp : (K : Int) < (L.length : Int) - (a : Int) := by omega
            clear HTO HOK
            clear hc4
            go_enter Try.func24, Try.ntmps24
            go_wp2_with fail

            have HS1 := Lib.hid (show Sn w B g A cap L D K s (N ++ []) E by rw [List.append_nil]; exact HH.out)
            have HB1 := HB
            have HW1 := Lib.hid (Below.refl B w)
            obtain ⟨w1, rfl⟩ : ∃ w1, w1 = w := ⟨_, rfl⟩

            refine (HI.out w1 _ E HS1.out HB1.out (by have := (HBD.out ()).1; rw [List.length_append]; simp; omega) (by have := (HBD.out ()).2.1; omega)).mono ?_
            rintro e2 w2 ⟨rfl, hs2, hw2⟩
            have HB2 := Lib.hid (Nat.le_trans HB1.out hw2.size)
            have HS2 := Lib.hid hs2
            have HW2 := Lib.hid (HW1.out.trans hw2)
            obtain ⟨u0, u1, u2, u3⟩ := hs2.cells
            clear hs2 hw2 HS1 HW1 HB1 c0 c1 c2 c3
            go_wp2_with fail

            refine (ref_noteI w2 B g A cap L D K s _ _ (a + K) ((a : Int) + (K : Int)) 4 (by omega) HS2.out HB2.out (by have := HBD.out (); (try simp only [List.length_append, List.length_nil]); omega)).mono ?_
            rintro e3 w3 ⟨rfl, hs3, hw3⟩
            have HB3 := Lib.hid (Nat.le_trans HB2.out hw3.size)
            have HS3 := Lib.hid hs3
            have HW3 := Lib.hid (HW2.out.trans hw3)
            clear hs3 hw3 HS2 HW2 HB2 u0 u1 u2 u3
            go_wp2_with fail
            refine bodyPost_ret (results_tmp2 rfl _ _ _) rfl ?_
            refine ⟨rfl, ?_, HW3.out⟩
            have hs := HS3.out
            simpa [List.append_assoc] using hs
          · have hif1 : (if D < dp ∧ a < L.length then [((a, 3) : Note)] else []) = [] := if_neg (by omega)
            have hif2 : (if true = true ∧ K < (if false = true then to else L.length) - a then [((a + K, 4) : Note)] else []) = [] := by
              rw [if_neg (fun h => by have h2 := h.2; rw [if_neg (by decide)] at h2; omega)]
            rw [hif1, hif2]
            clear hif1 hif2
            have hcmp : ¬ (K : Int) < (L.length : Int) - (a : Int) := by omega
            clear HTO HOK
            clear hc4
            go_enter Try.func24, Try.ntmps24
            go_wp2_with fail

            have HS1 := Lib.hid (show Sn w B g A cap L D K s (N ++ []) E by rw [List.append_nil]; exact HH.out)
            have HB1 := HB
            have HW1 := Lib.hid (Below.refl B w)
            obtain ⟨w1, rfl⟩ : ∃ w1, w1 = w := ⟨_, rfl⟩

            refine (HI.out w1 _ E HS1.out HB1.out (by have := (HBD.out ()).1; rw [List.length_append]; simp; omega) (by have := (HBD.out ()).2.1; omega)).mono ?_
            rintro e2 w2 ⟨rfl, hs2, hw2⟩
            have HB2 := Lib.hid (Nat.le_trans HB1.out hw2.size)
            have HS2 := Lib.hid hs2
            have HW2 := Lib.hid (HW1.out.trans hw2)
            obtain ⟨u0, u1, u2, u3⟩ := hs2.cells
            clear hs2 hw2 HS1 HW1 HB1 c0 c1 c2 c3
            go_wp2_with fail

            have HS3 := Lib.hid (show Sn w2 B g A cap L D K s (_ ++ []) _ by rw [List.append_nil]; exact HS2.out)
            have HB3 := HB2
            have HW3 := HW2
            obtain ⟨w3, rfl⟩ : ∃ w3, w3 = w2 := ⟨_, rfl⟩
            clear HS2 HW2 HB2
            refine bodyPost_ret (results_tmp2 rfl _ _ _) rfl ?_
            refine ⟨rfl, ?_, HW3.out⟩
            have hs := HS3.out
            simpa [List.append_assoc] using hs
      | true =>
        have iAT2 := HOK1.out rfl
        cases key with
        | false =>
          have hif1 : (if D < dp ∧ a < L.length then [((a, 3) : Note)] else []) = [] := if_neg (by omega)
          have hif2 : (if false = true ∧ K < (if true = true then to else L.length) - a then [((a + K, 4) : Note)] else []) = [] := by
            rw [if_neg (fun h => by cases h.1)]
          rw [hif1, hif2]
          clear hif1 hif2
          clear HTO HOK
          go_enter Try.func24, Try.ntmps24
          go_wp2_with fail

          have HS1 := Lib.hid (show Sn w B g A cap L D K s (N ++ []) E by rw [List.append_nil]; exact HH.out)
          have HB1 := HB
          have HW1 := Lib.hid (Below.refl B w)
          obtain ⟨w1, rfl⟩ : ∃ w1, w1 = w := ⟨_, rfl⟩

          refine (HI.out w1 _ E HS1.out HB1.out (by have := (HBD.out ()).1; rw [List.length_append]; simp; omega) (by have := (HBD.out ()).2.1; omega)).mono ?_
          rintro e2 w2 ⟨rfl, hs2, hw2⟩
          have HB2 := Lib.hid (Nat.le_trans HB1.out hw2.size)
          have HS2 := Lib.hid hs2
          have HW2 := Lib.hid (HW1.out.trans hw2)
          obtain ⟨u0, u1, u2, u3⟩ := hs2.cells
          clear hs2 hw2 HS1 HW1 HB1 c0 c1 c2 c3

          have HS3 := Lib.hid (show Sn w2 B g A cap L D K s (_ ++ []) _ by rw [List.append_nil]; exact HS2.out)
          have HB3 := HB2
          have HW3 := HW2
          obtain ⟨w3, rfl⟩ : ∃ w3, w3 = w2 := ⟨_, rfl⟩
          clear HS2 HW2 HB2

          obtain ⟨vA, vE, vV, hV⟩ := HS3.out
          have u6 : w3.cell? ⟨g, 6, none⟩ = some vV := hV.cells.2.2.2.2.2.2.1
          obtain ⟨A', n', c', w4, hr, h6, h7, hs4, hw4⟩ := ev_add hV HB3.out (by have := HBD.out (); rw [List.length_append]; omega) (endEv false dp to)
          have e1 : ((to - 1 : Nat) : Int) = (to : Int) - 1 := by omega
          have e2 : (endEv false dp to).cells.toArray = #[.int .i64 3, .int .i64 0, .int .i64 0, .int .i64 (dp : Int), .int .i64 ((to : Int) - 1), .int .u64 0, .int .u8 0] := by simp [endEv, AEv.cells, e1]
          rw [e2] at hr
          clear e1 e2
          have HR := Lib.hid hr
          have HS4 := Lib.hid hs4
          have HW4 := Lib.hid (HW3.out.trans hw4)
          clear hr hs4 hw4 hV HS3 HW3 HB3
          go_wp2_with ((with_reducible refine is_append 44 rfl ?_); (with_reducible refine wpList_append_run rfl rfl HR.out ?_ ?_ ?_); (· rfl); (· rfl))
          refine bodyPost_ret (results_tmp2 rfl _ _ _) rfl ?_
          refine ⟨rfl, ?_, HW4.out⟩
          have hs := HS4.out
          simpa [List.append_assoc] using hs
        | true =>
          by_cases hc4 : K < to - a
          · have hif1 : (if D < dp ∧ a < L.length then [((a, 3) : Note)] else []) = [] := if_neg (by omega)
            have hif2 : (if true = true ∧ K < (if true = true then to else L.length) - a then [((a + K, 4) : Note)] else []) = [(a + K, 4)] := by
              rw [if_pos ⟨rfl, by rw [if_pos rfl]; omega⟩]
            rw [hif1, hif2]
            clear hif1 hif2
            have hcmp : (K : Int) < (to : Int) - (a : Int) := by omega
            clear HTO HOK
            clear hc4
            go_enter Try.func24, Try.ntmps24
            go_wp2_with fail

            have HS1 := Lib.hid (show Sn w B g A cap L D K s (N ++ []) E by rw [List.append_nil]; exact HH.out)
            have HB1 := HB
            have HW1 := Lib.hid (Below.refl B w)
            obtain ⟨w1, rfl⟩ : ∃ w1, w1 = w := ⟨_, rfl⟩

            refine (HI.out w1 _ E HS1.out HB1.out (by have := (HBD.out ()).1; rw [List.length_append]; simp; omega) (by have := (HBD.out ()).2.1; omega)).mono ?_
            rintro e2 w2 ⟨rfl, hs2, hw2⟩
            have HB2 := Lib.hid (Nat.le_trans HB1.out hw2.size)
            have HS2 := Lib.hid hs2
            have HW2 := Lib.hid (HW1.out.trans hw2)
            obtain ⟨u0, u1, u2, u3⟩ := hs2.cells
            clear hs2 hw2 HS1 HW1 HB1 c0 c1 c2 c3
            go_wp2_with fail

            refine (ref_noteI w2 B g A cap L D K s _ _ (a + K) ((a : Int) + (K : Int)) 4 (by omega) HS2.out HB2.out (by have := HBD.out (); (try simp only [List.length_append, List.length_nil]); omega)).mono ?_
            rintro e3 w3 ⟨rfl, hs3, hw3⟩
            have HB3 := Lib.hid (Nat.le_trans HB2.out hw3.size)
            have HS3 := Lib.hid hs3
            have HW3 := Lib.hid (HW2.out.trans hw3)
            clear hs3 hw3 HS2 HW2 HB2 u0 u1 u2 u3

            obtain ⟨vA, vE, vV, hV⟩ := HS3.out
            have u6 : w3.cell? ⟨g, 6, none⟩ = some vV := hV.cells.2.2.2.2.2.2.1
            obtain ⟨A', n', c', w4, hr, h6, h7, hs4, hw4⟩ := ev_add hV HB3.out (by have := HBD.out (); rw [List.length_append]; omega) (endEv true dp to)
            have e1 : ((to - 1 : Nat) : Int) = (to : Int) - 1 := by omega
            have e2 : (endEv true dp to).cells.toArray = #[.int .i64 4, .int .i64 0, .int .i64 0, .int .i64 (dp : Int), .int .i64 ((to : Int) - 1), .int .u64 0, .int .u8 0] := by simp [endEv, AEv.cells, e1]
            rw [e2] at hr
            clear e1 e2
            have HR := Lib.hid hr
            have HS4 := Lib.hid hs4
            have HW4 := Lib.hid (HW3.out.trans hw4)
            clear hr hs4 hw4 hV HS3 HW3 HB3
            go_wp2_with ((with_reducible refine is_append 44 rfl ?_); (with_reducible refine wpList_append_run rfl rfl HR.out ?_ ?_ ?_); (· rfl); (· rfl))
            refine bodyPost_ret (results_tmp2 rfl _ _ _) rfl ?_
            refine ⟨rfl, ?_, HW4.out⟩
            have hs := HS4.out
            simpa [List.append_assoc] using hs
          · have hif1 : (if D < dp ∧ a < L.length then [((a, 3) : Note)] else []) = [] := if_neg (by omega)
            have hif2 : (if true = true ∧ K < (if true = true then to else L.length) - a then [((a + K, 4) : Note)] else []) = [] := by
              rw [if_neg (fun h => by have h2 := h.2; rw [if_pos rfl] at h2; omega)]
            rw [hif1, hif2]
            clear hif1 hif2
            have hcmp : ¬ (K : Int) < (to : Int) - (a : Int) := by omega
            clear HTO HOK
            clear hc4
            go_enter Try.func24, Try.ntmps24
            go_wp2_with fail

            have HS1 := Lib.hid (show Sn w B g A cap L D K s (N ++ []) E by rw [List.append_nil]; exact HH.out)
            have HB1 := HB
            have HW1 := Lib.hid (Below.refl B w)
            obtain ⟨w1, rfl⟩ : ∃ w1, w1 = w := ⟨_, rfl⟩

            refine (HI.out w1 _ E HS1.out HB1.out (by have := (HBD.out ()).1; rw [List.length_append]; simp; omega) (by have := (HBD.out ()).2.1; omega)).mono ?_
            rintro e2 w2 ⟨rfl, hs2, hw2⟩
            have HB2 := Lib.hid (Nat.le_trans HB1.out hw2.size)
            have HS2 := Lib.hid hs2
            have HW2 := Lib.hid (HW1.out.trans hw2)
            obtain ⟨u0, u1, u2, u3⟩ := hs2.cells
            clear hs2 hw2 HS1 HW1 HB1 c0 c1 c2 c3

            have HS3 := Lib.hid (show Sn w2 B g A cap L D K s (_ ++ []) _ by rw [List.append_nil]; exact HS2.out)
            have HB3 := HB2
            have HW3 := HW2
            obtain ⟨w3, rfl⟩ : ∃ w3, w3 = w2 := ⟨_, rfl⟩
            clear HS2 HW2 HB2

            obtain ⟨vA, vE, vV, hV⟩ := HS3.out
            have u6 : w3.cell? ⟨g, 6, none⟩ = some vV := hV.cells.2.2.2.2.2.2.1
            obtain ⟨A', n', c', w4, hr, h6, h7, hs4, hw4⟩ := ev_add hV HB3.out (by have := HBD.out (); rw [List.length_append]; omega) (endEv true dp to)
            have e1 : ((to - 1 : Nat) : Int) = (to : Int) - 1 := by omega
            have e2 : (endEv true dp to).cells.toArray = #[.int .i64 4, .int .i64 0, .int .i64 0, .int .i64 (dp : Int), .int .i64 ((to : Int) - 1), .int .u64 0, .int .u8 0] := by simp [endEv, AEv.cells, e1]
            rw [e2] at hr
            clear e1 e2
            have HR := Lib.hid hr
            have HS4 := Lib.hid hs4
            have HW4 := Lib.hid (HW3.out.trans hw4)
            clear hr hs4 hw4 hV HS3 HW3 HB3
            go_wp2_with ((with_reducible refine is_append 44 rfl ?_); (with_reducible refine wpList_append_run rfl rfl HR.out ?_ ?_ ?_); (· rfl); (· rfl))
            refine bodyPost_ret (results_tmp2 rfl _ _ _) rfl ?_
            refine ⟨rfl, ?_, HW4.out⟩
            have hs := HS4.out
            simpa [List.append_assoc] using hs
end Go.Proofs.Ytchhbcmkhbfpoaa
