/- Package item: checkOne. -/
import Derived.Test.YtbecflehidcbdaaKBD
namespace Go.Proofs.Ytbecflehidcbdaa
open Go.RowKit

/-- What is wrong with an item by itself. -/
noncomputable def wrongI (t : It) : Int :=
  if formB t = false then 11 else if rangB t = false then 15 else if t.k = 3 ∧ uok uq0 (sbytes t.s) = false then 6 else if t.k = 5 ∧ twiceB t.l = true then 14 else 0

set_option maxRecDepth 100000 in
set_option maxHeartbeats 4000000 in
theorem item_checkOne (t : It) (A : Option Addr) (cap n : Nat) (w : World) (hn0 : 0 ≤ t.n) (hn1 : t.n < 18446744073709551616) (hs : t.s.size ≤ 1000000000) (hn : n ≤ w.heap.size) (h : AtB w n t A cap)
    (htw : t.k = 5 → ∀ W, n ≤ W.heap.size → AtB W n t A cap → Calls Try.prog 31 #[.slice A t.l.length cap] W fun e w' => e = .returned (.bool (twiceB t.l)) ∧ Below W.heap.size W w') :
    Calls Try.prog 22 #[vI t A cap] w fun e w' => e = .returned (.int .i64 (wrongI t)) ∧ Below w.heap.size w w' := by
  obtain ⟨w1, hw1, b1, S⟩ := iblk1 w 25 #[.int .i64 t.k, .int .u64 t.n, .string t.s, .slice A t.l.length cap]
  obtain ⟨p0, p1, p2, p3, -⟩ := iblk b1
  have HS := Lib.hid S
  have C1 := Lib.hid (fun w => item_formed t A cap w)
  have C2 := Lib.hid (fun w => item_ranged t A cap w hn0 hn1)
  have C3 := Lib.hid (fun w => utf_valid t.s hs w)
  have C4 := Lib.hid (fun (h5 : t.k = 5) W (hb : Below w.heap.size w W) => htw h5 W (Nat.le_trans hn hb.size) (h.keep (hb.mono hn)))
  clear hn0 hn1 hs hn h htw S b1
  obtain ⟨z, hz⟩ : ∃ z, wrongI t = z := ⟨_, rfl⟩
  rw [hz]
  unfold wrongI at hz
  have HZ := Lib.hid hz
  clear hz
  generalize formB t = f at *
  generalize rangB t = r at *
  generalize uok uq0 (sbytes t.s) = u at *
  generalize twiceB t.l = tw at *
  obtain ⟨k, nn, s, l⟩ := t
  simp only [vI, It.k, It.n, It.s, It.l] at *
  generalize l.length = m at *
  go_enter Try.func22, Try.ntmps22
  have carry : ∀ w2, Below w1.heap.size w1 w2 → w2.cell? ⟨w.heap.size, 0, none⟩ = some (.int .i64 k) ∧ w2.cell? ⟨w.heap.size, 1, none⟩ = some (.int .u64 nn) ∧ w2.cell? ⟨w.heap.size, 2, none⟩ = some (.string s) ∧ w2.cell? ⟨w.heap.size, 3, none⟩ = some (.slice A m cap) := fun w2 hb =>
    ⟨(hb.cell (p := ⟨w.heap.size, 0, none⟩) (block_lt_of_cell p0)).trans p0, (hb.cell (p := ⟨w.heap.size, 1, none⟩) (block_lt_of_cell p1)).trans p1, (hb.cell (p := ⟨w.heap.size, 2, none⟩) (block_lt_of_cell p2)).trans p2, (hb.cell (p := ⟨w.heap.size, 3, none⟩) (block_lt_of_cell p3)).trans p3⟩
  have HCY := Lib.hid carry
  clear carry
  cases f
  · go_wp2_with (go_at_call 28; refine (C1.out w1).mono ?_; rintro e w2 ⟨rfl, hb2⟩; have HB2 := Lib.hid hb2; clear hb2)
    go_ret
    exact ⟨by rw [← HZ.out]; rfl, HS.out.trans (HB2.out.mono HS.out.size)⟩
  · cases r
    · go_wp2_with (first
        | (go_at_call 28; refine (C1.out w1).mono ?_; rintro e w2 ⟨rfl, hb2⟩; obtain ⟨r0, r1, r2, r3⟩ := HCY.out w2 hb2; have HB2 := Lib.hid hb2; clear hb2)
        | (go_at_call 29; refine (C2.out w2).mono ?_; rintro e w3 ⟨rfl, hb3⟩; have HB3 := Lib.hid (HB2.out.trans (hb3.mono HB2.out.size)); clear hb3))
      go_ret
      exact ⟨by rw [← HZ.out]; rfl, HS.out.trans (HB3.out.mono HS.out.size)⟩
    · by_cases h3 : k = 3
      · subst h3
        cases u
        · go_wp2_with (first
            | (go_at_call 28; refine (C1.out w1).mono ?_; rintro e w2 ⟨rfl, hb2⟩; obtain ⟨r0, r1, r2, r3⟩ := HCY.out w2 hb2; have HB2 := Lib.hid hb2; clear hb2)
            | (go_at_call 29; refine (C2.out w2).mono ?_; rintro e w3 ⟨rfl, hb3⟩; have hb3' := HB2.out.trans (hb3.mono HB2.out.size); obtain ⟨s0, s1, s2, s3⟩ := HCY.out w3 hb3'; have HB3 := Lib.hid hb3'; clear hb3 hb3')
            | (go_at_call 30; refine (C3.out w3).mono ?_; rintro e w4 ⟨rfl, hb4⟩; have HB4 := Lib.hid (HB3.out.trans (hb4.mono HB3.out.size)); clear hb4))
          go_ret
          exact ⟨by rw [← HZ.out]; rfl, HS.out.trans (HB4.out.mono HS.out.size)⟩
        · go_wp2_with (first
            | (go_at_call 28; refine (C1.out w1).mono ?_; rintro e w2 ⟨rfl, hb2⟩; obtain ⟨r0, r1, r2, r3⟩ := HCY.out w2 hb2; have HB2 := Lib.hid hb2; clear hb2)
            | (go_at_call 29; refine (C2.out w2).mono ?_; rintro e w3 ⟨rfl, hb3⟩; have hb3' := HB2.out.trans (hb3.mono HB2.out.size); obtain ⟨s0, s1, s2, s3⟩ := HCY.out w3 hb3'; have HB3 := Lib.hid hb3'; clear hb3 hb3')
            | (go_at_call 30; refine (C3.out w3).mono ?_; rintro e w4 ⟨rfl, hb4⟩; have hb4' := HB3.out.trans (hb4.mono HB3.out.size); obtain ⟨t0, t1, t2, t3⟩ := HCY.out w4 hb4'; have HB4 := Lib.hid hb4'; clear hb4 hb4'))
          go_ret
          exact ⟨by rw [← HZ.out]; rfl, HS.out.trans (HB4.out.mono HS.out.size)⟩
      · have n3 : (k == 3) = false := by simp; omega
        by_cases h5 : k = 5
        · subst h5
          have C5 := Lib.hid (C4.out rfl)
          cases tw <;> go_wp2_with (first
              | (go_at_call 28; refine (C1.out w1).mono ?_; rintro e w2 ⟨rfl, hb2⟩; obtain ⟨r0, r1, r2, r3⟩ := HCY.out w2 hb2; have HB2 := Lib.hid hb2; clear hb2)
              | (go_at_call 29; refine (C2.out w2).mono ?_; rintro e w3 ⟨rfl, hb3⟩; have hb3' := HB2.out.trans (hb3.mono HB2.out.size); obtain ⟨s0, s1, s2, s3⟩ := HCY.out w3 hb3'; have HB3 := Lib.hid hb3'; clear hb3 hb3')
              | (go_at_call 31; refine (C5.out w3 (HS.out.trans (HB3.out.mono HS.out.size))).mono ?_; rintro e w4 ⟨rfl, hb4⟩; have HB4 := Lib.hid (HB3.out.trans (hb4.mono HB3.out.size)); clear hb4))
          all_goals go_ret
          all_goals exact ⟨by rw [← HZ.out]; rfl, HS.out.trans (HB4.out.mono HS.out.size)⟩
        · have n5 : (k == 5) = false := by simp; omega
          have e0 : z = 0 := by
            rw [← HZ.out]
            show (if k = 3 ∧ u = false then 6 else if k = 5 ∧ tw = true then 14 else 0 : Int) = 0
            rw [if_neg (fun h => h3 h.1), if_neg (fun h => h5 h.1)]
          subst e0
          clear h3 h5
          go_wp2_with (first
              | (go_at_call 28; refine (C1.out w1).mono ?_; rintro e w2 ⟨rfl, hb2⟩; obtain ⟨r0, r1, r2, r3⟩ := HCY.out w2 hb2; have HB2 := Lib.hid hb2; clear hb2)
              | (go_at_call 29; refine (C2.out w2).mono ?_; rintro e w3 ⟨rfl, hb3⟩; have hb3' := HB2.out.trans (hb3.mono HB2.out.size); obtain ⟨s0, s1, s2, s3⟩ := HCY.out w3 hb3'; have HB3 := Lib.hid hb3'; clear hb3 hb3'))
          go_ret
          exact ⟨rfl, HS.out.trans (HB3.out.mono HS.out.size)⟩
end Go.Proofs.Ytbecflehidcbdaa

/- Package item: twice, of a list without items. -/
namespace Go.Proofs.Ytbecflehidcbdaa
open Go.RowKit

set_option maxRecDepth 100000 in
theorem bits_len0 (w : World) : Calls Try.prog 52 #[.int .u64 0] w fun e w' => e = .returned (.int .i64 0) ∧ w' = w := by
  go_enter Try.func52, Try.ntmps52
  go_wp2
  go_ret
  exact ⟨ret_num (by kernel_rfl), rfl⟩
theorem insertion0 (f : Value) (w : World) : Calls Try.prog 65 #[.slice none 0 0, .int .i64 0, .int .i64 0, f] w fun e w' => e = .returned (.tuple #[]) ∧ w' = w := by
  go_enter Try.func65, Try.ntmps65
  go_wp2_with fail
  go_loopw [8] (fun i wr => i = .int .i64 1 ∧ wr = w) (fun _ _ => 0)
  case atStart => exact ⟨rfl, rfl⟩
  case round =>
    obtain ⟨rfl, rfl⟩ := hrel
    go_wp2_with fail
    go_end0
    exact ⟨rfl, rfl⟩
theorem pdq0 (f : Value) (w : World) : Calls Try.prog 51 #[.slice none 0 0, .int .i64 0, .int .i64 0, .int .i64 0, f] w fun e w' => e = .returned (.tuple #[]) ∧ w' = w := by
  go_enter Try.func51, Try.ntmps51
  go_wp2_with fail
  go_loopw [1, 2] (fun a b wr => a = .int .i64 0 ∧ b = .int .i64 0 ∧ wr = w) (fun _ _ _ => 0)
  case atStart => exact ⟨rfl, rfl, rfl⟩
  case round =>
    obtain ⟨rfl, rfl, rfl⟩ := hrel
    go_wp2_with (go_at_call 65; refine (insertion0 _ _).mono ?_; rintro e w' ⟨rfl, rfl⟩)
    refine bodyPost_ret (results_none rfl _ _ _) rfl ?_
    exact ⟨rfl, rfl⟩
theorem sort0 (f : Value) (w : World) : Calls Try.prog 39 #[.slice none 0 0, f] w fun e w' => e = .returned (.tuple #[]) ∧ w' = w := by
  go_enter Try.func39, Try.ntmps39
  go_wp2_with (first
    | (go_at_call 52; refine (bits_len0 _).mono ?_; rintro e w' ⟨rfl, rfl⟩)
    | (go_at_call 51; refine (pdq0 _ _).mono ?_; rintro e w' ⟨rfl, rfl⟩))
  go_end0
  exact ⟨rfl, rfl⟩
theorem twice0 (A : Option Addr) (cap : Nat) (w : World) : Calls Try.prog 31 #[.slice A 0 cap] w fun e w' => e = .returned (.bool false) ∧ w' = w := by
  go_enter Try.func31, Try.ntmps31
  go_wp2_with fail
  go_loopw [3, 4] (fun v i wr => v = .slice none 0 0 ∧ i = .int .i64 0 ∧ wr = w) (fun _ _ _ => 0)
  case atStart => exact ⟨rfl, rfl, rfl⟩
  case round =>
    obtain ⟨rfl, rfl, hw⟩ := hrel
    rw [hw]
    clear hw
    go_wp2_with (go_at_call 39; refine (sort0 _ _).mono ?_; rintro e w' ⟨rfl, rfl⟩)
    go_loopw [5] (fun i w2 => i = .int .i64 1 ∧ w2 = w') (fun _ _ => 0)
    case atStart => exact ⟨rfl, rfl⟩
    case round =>
      obtain ⟨rfl, rfl⟩ := hrel
      go_wp2_with fail
      go_ret
      exact ⟨rfl, rfl⟩
end Go.Proofs.Ytbecflehidcbdaa

/- The law's awake: the document's example. -/
namespace Go.Proofs.Ytbecflehidcbdaa
open Go.RowKit

def exI1 : It := .mk 0 1 ⟨#[]⟩ []
def exI2 : It := .mk 5 0 ⟨#[]⟩ []
def exI : It := .mk 4 0 ⟨#[]⟩ [exI1, exI2]
theorem exI_items : exI.items 1 = [(1, exI), (2, exI1), (2, exI2)] := by
  simp [exI, exI1, exI2, It.items, itemsL]
theorem exI_count : exI.count = 3 := by simp [exI, exI1, exI2, It.count, countL]
theorem exI_depth : exI.depth = 2 := by
  unfold It.depth
  rw [exI_items]
  rfl
theorem noText_empty : (⟨#[]⟩ : ByteArray).toList.isEmpty = true := by
  rw [ByteArray.toList_eq]
  rfl
theorem twiceB_nil : twiceB [] = false := by
  rw [twiceB_false]
  rintro ⟨i, j, hi, hj, _⟩
  simp [evens] at hj
theorem wrongI_ok {t : It} (h1 : formB t = true) (h2 : rangB t = true) (h3 : t.k ≠ 3) (h5 : t.k = 5 → twiceB t.l = false) : wrongI t = 0 := by
  unfold wrongI
  rw [if_neg (by rw [h1]; simp), if_neg (by rw [h2]; simp), if_neg (fun h => h3 h.1), if_neg (fun h => by rw [h5 h.1] at h; exact absurd h.2 (by simp))]
theorem exI_wrong : wrongI exI = 0 := wrongI_ok (by
  show formK 4 true (ByteArray.toList ⟨#[]⟩).isEmpty 2 = true
  rw [noText_empty]
  rfl) rfl (by decide) (fun h => absurd h (by decide))
theorem exI1_wrong : wrongI exI1 = 0 := wrongI_ok (by
  show formK 0 false (ByteArray.toList ⟨#[]⟩).isEmpty 0 = true
  rw [noText_empty]
  rfl) rfl (by decide) (fun h => absurd h (by decide))
theorem exI2_wrong : wrongI exI2 = 0 := wrongI_ok (by
  show formK 5 true (ByteArray.toList ⟨#[]⟩).isEmpty 0 = true
  rw [noText_empty]
  rfl) rfl (by decide) (fun _ => twiceB_nil)
theorem exI_check : checkR wrongI exI = 0 := by
  unfold checkR
  rw [exI_depth, exI_items, if_neg (by omega)]
  simp only [List.map_cons, List.map_nil, exI_wrong, exI1_wrong, exI2_wrong]
  rfl
/-- The example in memory. -/
theorem exI_at {w : World} {g : Nat} (h : Blk w g 25 #[.int .i64 0, .int .u64 1, .string ⟨#[]⟩, .slice none 0 0, .int .i64 5, .int .u64 0, .string ⟨#[]⟩, .slice none 0 0]) : AtB w (g + 1) exI (some ⟨g, 0, none⟩) 2 := by
  refine ⟨by simp [exI, It.l], (fun h => by cases h), ?_⟩
  refine AtL.mk (by omega) h.lt (At1.mk none 0 (by rw [h.cell]; rfl) (by rw [h.cell]; rfl) (by rw [h.cell]; rfl) (by rw [h.cell]; rfl) (by simp [exI1, It.l]) (fun _ => rfl) (AtL.nil _)) ?_
  refine AtL.mk (by omega) h.lt (At1.mk none 0 (by rw [h.cell]; rfl) (by rw [h.cell]; rfl) (by rw [h.cell]; rfl) (by rw [h.cell]; rfl) (by simp [exI2, It.l]) (fun _ => rfl) (AtL.nil _)) (AtL.nil _)
theorem exI_ok {d : Nat} {t : It} (h : (d, t) ∈ exI.items 1) : 0 ≤ t.n ∧ t.n < 18446744073709551616 ∧ t.s.size ≤ 1000000000 ∧ (t.k = 5 → t = exI2) := by
  rw [exI_items] at h
  simp only [List.mem_cons, Prod.mk.injEq, List.not_mem_nil, or_false] at h
  rcases h with ⟨_, rfl⟩ | ⟨_, rfl⟩ | ⟨_, rfl⟩
  · exact ⟨by decide, by decide, by decide, fun h => absurd h (by decide)⟩
  · exact ⟨by decide, by decide, by decide, fun h => absurd h (by decide)⟩
  · exact ⟨by decide, by decide, by decide, fun _ => rfl⟩

set_option maxRecDepth 100000 in
set_option maxHeartbeats 4000000 in
theorem item_awake (w : World) : Calls Try.prog 5 #[] w fun e w' => e = .returned (.bool true) ∧ Below w.heap.size w w' := by
  have CD := fun W (hn : w.heap.size + 1 ≤ W.heap.size) (h : AtB W (w.heap.size + 1) exI (some ⟨w.heap.size, 0, none⟩) 2) => item_Depth exI _ 2 (w.heap.size + 1) W (by rw [exI_count]; omega) hn h
  have CS := fun W (hn : w.heap.size + 1 ≤ W.heap.size) (h : AtB W (w.heap.size + 1) exI (some ⟨w.heap.size, 0, none⟩) 2) => item_Size exI _ 2 (w.heap.size + 1) W (by rw [exI_count]; omega) hn h
  have CC := fun W (hn : w.heap.size + 1 ≤ W.heap.size) (h : AtB W (w.heap.size + 1) exI (some ⟨w.heap.size, 0, none⟩) 2) => item_Check exI _ 2 (w.heap.size + 1) W wrongI (by rw [exI_count]; omega) hn h
    (fun d t A cap W1 hm hn1 hat => by
      obtain ⟨h1, h2, h3, h4⟩ := exI_ok hm
      exact item_checkOne t A cap _ W1 h1 h2 h3 hn1 hat fun hk W2 hn2 _ => by
        obtain rfl := h4 hk
        rw [show twiceB exI2.l = false from twiceB_nil]
        exact (twice0 A cap W2).mono fun e w' ⟨h1, h2⟩ => ⟨h1, by rw [h2]; exact Below.refl _ _⟩)
  rw [exI_depth] at CD
  rw [exI_count] at CS
  rw [exI_check] at CC
  obtain ⟨w2, hw2, b1, b2, S⟩ := iblk2 w 25 #[.int .i64 0, .int .u64 1, .string ⟨#[]⟩, .slice none 0 0, .int .i64 5, .int .u64 0, .string ⟨#[]⟩, .slice none 0 0] #[.int .i64 4, .int .u64 0, .string ⟨#[]⟩, .slice (some ⟨w.heap.size, 0, none⟩) 2 2]
  obtain ⟨p0, p1, p2, p3, -⟩ := iblk b2
  have hsz : w.heap.size + 2 ≤ w2.heap.size := by rw [← hw2]; simp
  have CD2 := fun W (hb : Below w2.heap.size w2 W) => CD W (by have := hb.size; omega) ((exI_at b1).keep (hb.mono (by omega)))
  have CS2 := fun W (hb : Below w2.heap.size w2 W) => CS W (by have := hb.size; omega) ((exI_at b1).keep (hb.mono (by omega)))
  have CC2 := fun W (hb : Below w2.heap.size w2 W) => CC W (by have := hb.size; omega) ((exI_at b1).keep (hb.mono (by omega)))
  simp only [vI, exI, It.k, It.n, It.s, It.l, List.length_cons, List.length_nil, Nat.reduceAdd] at CD2 CS2 CC2
  have HD := Lib.hid CD2
  have HSI := Lib.hid CS2
  have HCK := Lib.hid CC2
  have HS := Lib.hid S
  have carry : ∀ W, Below w2.heap.size w2 W → W.cell? ⟨w.heap.size + 1, 0, none⟩ = some (.int .i64 4) ∧ W.cell? ⟨w.heap.size + 1, 1, none⟩ = some (.int .u64 0) ∧ W.cell? ⟨w.heap.size + 1, 2, none⟩ = some (.string ⟨#[]⟩) ∧ W.cell? ⟨w.heap.size + 1, 3, none⟩ = some (.slice (some ⟨w.heap.size, 0, none⟩) 2 2) := fun W hb =>
    ⟨(hb.cell (p := ⟨w.heap.size + 1, 0, none⟩) (block_lt_of_cell p0)).trans p0, (hb.cell (p := ⟨w.heap.size + 1, 1, none⟩) (block_lt_of_cell p1)).trans p1, (hb.cell (p := ⟨w.heap.size + 1, 2, none⟩) (block_lt_of_cell p2)).trans p2, (hb.cell (p := ⟨w.heap.size + 1, 3, none⟩) (block_lt_of_cell p3)).trans p3⟩
  have HCY := Lib.hid carry
  clear CD CS CC CD2 CS2 CC2 S b1 b2 hsz carry
  go_enter Try.func5, Try.ntmps5
  go_wp2_with (first
    | (go_at_call 9; refine (HD.out w2 (Below.refl _ _)).mono ?_; rintro e w3 ⟨rfl, hb3⟩; obtain ⟨r0, r1, r2, r3⟩ := HCY.out w3 hb3; have HB3 := Lib.hid hb3; clear hb3)
    | (go_at_call 11; refine (HSI.out w3 HB3.out).mono ?_; rintro e w4 ⟨rfl, hb4⟩; have hb4' := HB3.out.trans (hb4.mono HB3.out.size); obtain ⟨s0, s1, s2, s3⟩ := HCY.out w4 hb4'; have HB4 := Lib.hid hb4'; clear hb4 hb4')
    | (go_at_call 12; refine (HCK.out w4 HB4.out).mono ?_; rintro e w5 ⟨rfl, hb5⟩; have HB5 := Lib.hid (HB4.out.trans (hb5.mono HB4.out.size)); clear hb5))
  go_ret
  exact ⟨rfl, HS.out.trans (HB5.out.mono HS.out.size)⟩
end Go.Proofs.Ytbecflehidcbdaa
