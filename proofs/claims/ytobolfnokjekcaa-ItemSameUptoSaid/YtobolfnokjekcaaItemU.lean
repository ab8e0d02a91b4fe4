
/- Package item: checkOne. -/
import Derived.Test.YtobolfnokjekcaaItemT
namespace Go.Proofs.Ytobolfnokjekcaa
open Go.RowKit

/-- What is wrong with an item by itself. -/
noncomputable def wrongI (t : It) : Int :=
  if formB t = false then 11 else if rangB t = false then 15 else if t.k = 3 ∧ uok uq0 (sbytes t.s) = false then 6 else if t.k = 5 ∧ twiceB t.l = true then 14 else 0

set_option maxRecDepth 100000 in
set_option maxHeartbeats 4000000 in
theorem item_checkOne (t : It) (A : Option Addr) (cap n : Nat) (w : World) (hn0 : 0 ≤ t.n) (hn1 : t.n < 18446744073709551616) (hs : t.s.size ≤ 1000000000) (hn : n ≤ w.heap.size) (h : AtB w n t A cap)
    (htw : t.k = 5 → ∀ W, n ≤ W.heap.size → AtB W n t A cap → Calls Try.prog 28 #[.slice A t.l.length cap] W fun e w' => e = .returned (.bool (twiceB t.l)) ∧ Below W.heap.size W w') :
    Calls Try.prog 20 #[vI t A cap] w fun e w' => e = .returned (.int .i64 (wrongI t)) ∧ Below w.heap.size w w' := by
  obtain ⟨w1, hw1, b1, S⟩ := iblk1 w 25 #[.int .i64 t.k, .int .u64 t.n, .string t.s, .slice A t.l.length cap]
  obtain ⟨p0, p1, p2, p3, -⟩ := iblk b1
  have HS := Lib.hid S
  have C1 := Lib.hid (fun w => item_formed t A cap w)
  have C2 := Lib.hid (fun w => item_ranged t A cap w hn0 hn1)
  have C3 := Lib.hid (fun w => utf_valid t.s hs w)
  have C4 := Lib.hid (fun (h5 : t.k = 5) W (hb : Below w.heap.size w W) => htw h5 W (Nat.le_trans hn hb.size) (h.keep (hb.mono hn)))
  clear hn0 hn1 hs hn h htw S b1
  obtain ⟨z, hz⟩ : ∃ z, wrongI t = z := ⟨_, rfl⟩
  rw [hz]
  unfold wrongI at hz
  have HZ := Lib.hid hz
  clear hz
  generalize formB t = f at *
  generalize rangB t = r at *
  generalize uok uq0 (sbytes t.s) = u at *
  generalize twiceB t.l = tw at *
  obtain ⟨k, nn, s, l⟩ := t
  simp only [vI, It.k, It.n, It.s, It.l] at *
  generalize l.length = m at *
  go_enter Try.func20, Try.ntmps20
  have carry : ∀ w2, Below w1.heap.size w1 w2 → w2.cell? ⟨w.heap.size, 0, none⟩ = some (.int .i64 k) ∧ w2.cell? ⟨w.heap.size, 1, none⟩ = some (.int .u64 nn) ∧ w2.cell? ⟨w.heap.size, 2, none⟩ = some (.string s) ∧ w2.cell? ⟨w.heap.size, 3, none⟩ = some (.slice A m cap) := fun w2 hb =>
    ⟨(hb.cell (p := ⟨w.heap.size, 0, none⟩) (block_lt_of_cell p0)).trans p0, (hb.cell (p := ⟨w.heap.size, 1, none⟩) (block_lt_of_cell p1)).trans p1, (hb.cell (p := ⟨w.heap.size, 2, none⟩) (block_lt_of_cell p2)).trans p2, (hb.cell (p := ⟨w.heap.size, 3, none⟩) (block_lt_of_cell p3)).trans p3⟩
  have HCY := Lib.hid carry
  clear carry
  cases f
  · go_wp2_with (go_at_call 25; refine (C1.out w1).mono ?_; rintro e w2 ⟨rfl, hb2⟩; have HB2 := Lib.hid hb2; clear hb2)
    go_ret
    exact ⟨by rw [← HZ.out]; rfl, HS.out.trans (HB2.out.mono HS.out.size)⟩
  · cases r
    · go_wp2_with (first
        | (go_at_call 25; refine (C1.out w1).mono ?_; rintro e w2 ⟨rfl, hb2⟩; obtain ⟨r0, r1, r2, r3⟩ := HCY.out w2 hb2; have HB2 := Lib.hid hb2; clear hb2)
        | (go_at_call 26; refine (C2.out w2).mono ?_; rintro e w3 ⟨rfl, hb3⟩; have HB3 := Lib.hid (HB2.out.trans (hb3.mono HB2.out.size)); clear hb3))
      go_ret
      exact ⟨by rw [← HZ.out]; rfl, HS.out.trans (HB3.out.mono HS.out.size)⟩
    · by_cases h3 : k = 3
      · subst h3
        cases u
        · go_wp2_with (first
            | (go_at_call 25; refine (C1.out w1).mono ?_; rintro e w2 ⟨rfl, hb2⟩; obtain ⟨r0, r1, r2, r3⟩ := HCY.out w2 hb2; have HB2 := Lib.hid hb2; clear hb2)
            | (go_at_call 26; refine (C2.out w2).mono ?_; rintro e w3 ⟨rfl, hb3⟩; have hb3' := HB2.out.trans (hb3.mono HB2.out.size); obtain ⟨s0, s1, s2, s3⟩ := HCY.out w3 hb3'; have HB3 := Lib.hid hb3'; clear hb3 hb3')
            | (go_at_call 27; refine (C3.out w3).mono ?_; rintro e w4 ⟨rfl, hb4⟩; have HB4 := Lib.hid (HB3.out.trans (hb4.mono HB3.out.size)); clear hb4))
          go_ret
          exact ⟨by rw [← HZ.out]; rfl, HS.out.trans (HB4.out.mono HS.out.size)⟩
        · go_wp2_with (first
            | (go_at_call 25; refine (C1.out w1).mono ?_; rintro e w2 ⟨rfl, hb2⟩; obtain ⟨r0, r1, r2, r3⟩ := HCY.out w2 hb2; have HB2 := Lib.hid hb2; clear hb2)
            | (go_at_call 26; refine (C2.out w2).mono ?_; rintro e w3 ⟨rfl, hb3⟩; have hb3' := HB2.out.trans (hb3.mono HB2.out.size); obtain ⟨s0, s1, s2, s3⟩ := HCY.out w3 hb3'; have HB3 := Lib.hid hb3'; clear hb3 hb3')
            | (go_at_call 27; refine (C3.out w3).mono ?_; rintro e w4 ⟨rfl, hb4⟩; have hb4' := HB3.out.trans (hb4.mono HB3.out.size); obtain ⟨t0, t1, t2, t3⟩ := HCY.out w4 hb4'; have HB4 := Lib.hid hb4'; clear hb4 hb4'))
          go_ret
          exact ⟨by rw [← HZ.out]; rfl, HS.out.trans (HB4.out.mono HS.out.size)⟩
      · have n3 : (k == 3) = false := by simp; omega
        by_cases h5 : k = 5
        · subst h5
          have C5 := Lib.hid (C4.out rfl)
          cases tw <;> go_wp2_with (first
              | (go_at_call 25; refine (C1.out w1).mono ?_; rintro e w2 ⟨rfl, hb2⟩; obtain ⟨r0, r1, r2, r3⟩ := HCY.out w2 hb2; have HB2 := Lib.hid hb2; clear hb2)
              | (go_at_call 26; refine (C2.out w2).mono ?_; rintro e w3 ⟨rfl, hb3⟩; have hb3' := HB2.out.trans (hb3.mono HB2.out.size); obtain ⟨s0, s1, s2, s3⟩ := HCY.out w3 hb3'; have HB3 := Lib.hid hb3'; clear hb3 hb3')
              | (go_at_call 28; refine (C5.out w3 (HS.out.trans (HB3.out.mono HS.out.size))).mono ?_; rintro e w4 ⟨rfl, hb4⟩; have HB4 := Lib.hid (HB3.out.trans (hb4.mono HB3.out.size)); clear hb4))
          all_goals go_ret
          all_goals exact ⟨by rw [← HZ.out]; rfl, HS.out.trans (HB4.out.mono HS.out.size)⟩
        · have n5 : (k == 5) = false := by simp; omega
          have e0 : z = 0 := by
            rw [← HZ.out]
            show (if k = 3 ∧ u = false then 6 else if k = 5 ∧ tw = true then 14 else 0 : Int) = 0
            rw [if_neg (fun h => h3 h.1), if_neg (fun h => h5 h.1)]
          subst e0
          clear h3 h5
          go_wp2_with (first
              | (go_at_call 25; refine (C1.out w1).mono ?_; rintro e w2 ⟨rfl, hb2⟩; obtain ⟨r0, r1, r2, r3⟩ := HCY.out w2 hb2; have HB2 := Lib.hid hb2; clear hb2)
              | (go_at_call 26; refine (C2.out w2).mono ?_; rintro e w3 ⟨rfl, hb3⟩; have hb3' := HB2.out.trans (hb3.mono HB2.out.size); obtain ⟨s0, s1, s2, s3⟩ := HCY.out w3 hb3'; have HB3 := Lib.hid hb3'; clear hb3 hb3'))
          go_ret
          exact ⟨rfl, HS.out.trans (HB3.out.mono HS.out.size)⟩
end Go.Proofs.Ytobolfnokjekcaa
