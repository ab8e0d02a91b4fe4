/- Package item: checkOne. -/
import Derived.Test.YtmihoeholcaokaaKAZ
import Derived.Test.YtmihoeholcaokaaKAX
import Derived.Lib.QuietBelow
namespace Go.Proofs.Ytmihoeholcaokaa
open Go.RowKit

/-- What is wrong with an item by itself. -/
noncomputable def wrongI (t : It) : Int :=
  if formB t = false then 11 else if rangB t = false then 15 else if t.k = 3 ∧ uok uq0 (sbytes t.s) = false then 6 else if t.k = 5 ∧ twiceB t.l = true then 14 else 0

set_option maxRecDepth 100000 in
set_option maxHeartbeats 4000000 in
theorem item_checkOne (t : It) (A : Option Addr) (cap n : Nat) (w : World) (hn0 : 0 ≤ t.n) (hn1 : t.n < 18446744073709551616) (hs : t.s.size ≤ 1000000000) (hn : n ≤ w.heap.size) (h : AtB w n t A cap)
    (htw : t.k = 5 → ∀ W, n ≤ W.heap.size → AtB W n t A cap → Calls Try.prog 46 #[.slice A t.l.length cap] W fun e w' => e = .returned (.bool (twiceB t.l)) ∧ Below W.heap.size W w') :
    Calls Try.prog 40 #[vI t A cap] w fun e w' => e = .returned (.int .i64 (wrongI t)) ∧ Below w.heap.size w w' := by
  obtain ⟨w1, hw1, b1, S⟩ := iblk1 w 39 #[.int .i64 t.k, .int .u64 t.n, .string t.s, .slice A t.l.length cap]
  obtain ⟨p0, p1, p2, p3, -⟩ := iblk b1
  have HS := Lib.hid S
  have C1 := Lib.hid (fun w => item_formed t A cap w)
  have C2 := Lib.hid (fun w => item_ranged t A cap w hn0 hn1)
  have C3 := Lib.hid (fun w => utf_valid t.s hs w)
  have C4 := Lib.hid (fun (h5 : t.k = 5) W (hb : Below w.heap.size w W) => htw h5 W (Nat.le_trans hn hb.size) (h.keep (hb.mono hn)))
  clear hn0 hn1 hs hn h htw S b1
  obtain ⟨z, hz⟩ : ∃ z, wrongI t = z := ⟨_, rfl⟩
  rw [hz]
  unfold wrongI at hz
  have HZ := Lib.hid hz
  clear hz
  generalize formB t = f at *
  generalize rangB t = r at *
  generalize uok uq0 (sbytes t.s) = u at *
  generalize twiceB t.l = tw at *
  obtain ⟨k, nn, s, l⟩ := t
  simp only [vI, It.k, It.n, It.s, It.l] at *
  generalize l.length = m at *
  go_enter Try.func40, Try.ntmps40
  have carry : ∀ w2, Below w1.heap.size w1 w2 → w2.cell? ⟨w.heap.size, 0, none⟩ = some (.int .i64 k) ∧ w2.cell? ⟨w.heap.size, 1, none⟩ = some (.int .u64 nn) ∧ w2.cell? ⟨w.heap.size, 2, none⟩ = some (.string s) ∧ w2.cell? ⟨w.heap.size, 3, none⟩ = some (.slice A m cap) := fun w2 hb =>
    ⟨(hb.cell (p := ⟨w.heap.size, 0, none⟩) (block_lt_of_cell p0)).trans p0, (hb.cell (p := ⟨w.heap.size, 1, none⟩) (block_lt_of_cell p1)).trans p1, (hb.cell (p := ⟨w.heap.size, 2, none⟩) (block_lt_of_cell p2)).trans p2, (hb.cell (p := ⟨w.heap.size, 3, none⟩) (block_lt_of_cell p3)).trans p3⟩
  have HCY := Lib.hid carry
  clear carry
  cases f
  · go_wp2_with (go_at_call 44; refine (C1.out w1).mono ?_; rintro e w2 ⟨rfl, hb2⟩; have HB2 := Lib.hid hb2; clear hb2)
    go_ret
    exact ⟨by rw [← HZ.out]; rfl, HS.out.trans (HB2.out.mono HS.out.size)⟩
  · cases r
    · go_wp2_with (first
        | (go_at_call 44; refine (C1.out w1).mono ?_; rintro e w2 ⟨rfl, hb2⟩; obtain ⟨r0, r1, r2, r3⟩ := HCY.out w2 hb2; have HB2 := Lib.hid hb2; clear hb2)
        | (go_at_call 45; refine (C2.out w2).mono ?_; rintro e w3 ⟨rfl, hb3⟩; have HB3 := Lib.hid (HB2.out.trans (hb3.mono HB2.out.size)); clear hb3))
      go_ret
      exact ⟨by rw [← HZ.out]; rfl, HS.out.trans (HB3.out.mono HS.out.size)⟩
    · by_cases h3 : k = 3
      · subst h3
        cases u
        · go_wp2_with (first
            | (go_at_call 44; refine (C1.out w1).mono ?_; rintro e w2 ⟨rfl, hb2⟩; obtain ⟨r0, r1, r2, r3⟩ := HCY.out w2 hb2; have HB2 := Lib.hid hb2; clear hb2)
            | (go_at_call 45; refine (C2.out w2).mono ?_; rintro e w3 ⟨rfl, hb3⟩; have hb3' := HB2.out.trans (hb3.mono HB2.out.size); obtain ⟨s0, s1, s2, s3⟩ := HCY.out w3 hb3'; have HB3 := Lib.hid hb3'; clear hb3 hb3')
            | (go_at_call 31; refine (C3.out w3).mono ?_; rintro e w4 ⟨rfl, hb4⟩; have HB4 := Lib.hid (HB3.out.trans (hb4.mono HB3.out.size)); clear hb4))
          go_ret
          exact ⟨by rw [← HZ.out]; rfl, HS.out.trans (HB4.out.mono HS.out.size)⟩
        · go_wp2_with (first
            | (go_at_call 44; refine (C1.out w1).mono ?_; rintro e w2 ⟨rfl, hb2⟩; obtain ⟨r0, r1, r2, r3⟩ := HCY.out w2 hb2; have HB2 := Lib.hid hb2; clear hb2)
            | (go_at_call 45; refine (C2.out w2).mono ?_; rintro e w3 ⟨rfl, hb3⟩; have hb3' := HB2.out.trans (hb3.mono HB2.out.size); obtain ⟨s0, s1, s2, s3⟩ := HCY.out w3 hb3'; have HB3 := Lib.hid hb3'; clear hb3 hb3')
            | (go_at_call 31; refine (C3.out w3).mono ?_; rintro e w4 ⟨rfl, hb4⟩; have hb4' := HB3.out.trans (hb4.mono HB3.out.size); obtain ⟨t0, t1, t2, t3⟩ := HCY.out w4 hb4'; have HB4 := Lib.hid hb4'; clear hb4 hb4'))
          go_ret
          exact ⟨by rw [← HZ.out]; rfl, HS.out.trans (HB4.out.mono HS.out.size)⟩
      · have n3 : (k == 3) = false := by simp; omega
        by_cases h5 : k = 5
        · subst h5
          have C5 := Lib.hid (C4.out rfl)
          cases tw <;> go_wp2_with (first
              | (go_at_call 44; refine (C1.out w1).mono ?_; rintro e w2 ⟨rfl, hb2⟩; obtain ⟨r0, r1, r2, r3⟩ := HCY.out w2 hb2; have HB2 := Lib.hid hb2; clear hb2)
              | (go_at_call 45; refine (C2.out w2).mono ?_; rintro e w3 ⟨rfl, hb3⟩; have hb3' := HB2.out.trans (hb3.mono HB2.out.size); obtain ⟨s0, s1, s2, s3⟩ := HCY.out w3 hb3'; have HB3 := Lib.hid hb3'; clear hb3 hb3')
              | (go_at_call 46; refine (C5.out w3 (HS.out.trans (HB3.out.mono HS.out.size))).mono ?_; rintro e w4 ⟨rfl, hb4⟩; have HB4 := Lib.hid (HB3.out.trans (hb4.mono HB3.out.size)); clear hb4))
          all_goals go_ret
          all_goals exact ⟨by rw [← HZ.out]; rfl, HS.out.trans (HB4.out.mono HS.out.size)⟩
        · have n5 : (k == 5) = false := by simp; omega
          have e0 : z = 0 := by
            rw [← HZ.out]
            show (if k = 3 ∧ u = false then 6 else if k = 5 ∧ tw = true then 14 else 0 : Int) = 0
            rw [if_neg (fun h => h3 h.1), if_neg (fun h => h5 h.1)]
          subst e0
          clear h3 h5
          go_wp2_with (first
              | (go_at_call 44; refine (C1.out w1).mono ?_; rintro e w2 ⟨rfl, hb2⟩; obtain ⟨r0, r1, r2, r3⟩ := HCY.out w2 hb2; have HB2 := Lib.hid hb2; clear hb2)
              | (go_at_call 45; refine (C2.out w2).mono ?_; rintro e w3 ⟨rfl, hb3⟩; have hb3' := HB2.out.trans (hb3.mono HB2.out.size); obtain ⟨s0, s1, s2, s3⟩ := HCY.out w3 hb3'; have HB3 := Lib.hid hb3'; clear hb3 hb3'))
          go_ret
          exact ⟨rfl, HS.out.trans (HB3.out.mono HS.out.size)⟩
end Go.Proofs.Ytmihoeholcaokaa

/- Package item: twice, of a list without items. -/
namespace Go.Proofs.Ytmihoeholcaokaa
open Go.RowKit

set_option maxRecDepth 100000 in
theorem bits_len0 (w : World) : Calls Try.prog 60 #[.int .u64 0] w fun e w' => e = .returned (.int .i64 0) ∧ w' = w := by
  go_enter Try.func60, Try.ntmps60
  go_wp2
  go_ret
  exact ⟨ret_num (by kernel_rfl), rfl⟩
theorem insertion0 (f : Value) (w : World) : Calls Try.prog 67 #[.slice none 0 0, .int .i64 0, .int .i64 0, f] w fun e w' => e = .returned (.tuple #[]) ∧ w' = w := by
  go_enter Try.func67, Try.ntmps67
  go_wp2_with fail
  go_loopw [8] (fun i wr => i = .int .i64 1 ∧ wr = w) (fun _ _ => 0)
  case atStart => exact ⟨rfl, rfl⟩
  case round =>
    obtain ⟨rfl, rfl⟩ := hrel
    go_wp2_with fail
    go_end0
    exact ⟨rfl, rfl⟩
theorem pdq0 (f : Value) (w : World) : Calls Try.prog 59 #[.slice none 0 0, .int .i64 0, .int .i64 0, .int .i64 0, f] w fun e w' => e = .returned (.tuple #[]) ∧ w' = w := by
  go_enter Try.func59, Try.ntmps59
  go_wp2_with fail
  go_loopw [1, 2] (fun a b wr => a = .int .i64 0 ∧ b = .int .i64 0 ∧ wr = w) (fun _ _ _ => 0)
  case atStart => exact ⟨rfl, rfl, rfl⟩
  case round =>
    obtain ⟨rfl, rfl, rfl⟩ := hrel
    go_wp2_with (go_at_call 67; refine (insertion0 _ _).mono ?_; rintro e w' ⟨rfl, rfl⟩)
    refine bodyPost_ret (results_none rfl _ _ _) rfl ?_
    exact ⟨rfl, rfl⟩
theorem sort0 (f : Value) (w : World) : Calls Try.prog 51 #[.slice none 0 0, f] w fun e w' => e = .returned (.tuple #[]) ∧ w' = w := by
  go_enter Try.func51, Try.ntmps51
  go_wp2_with (first
    | (go_at_call 60; refine (bits_len0 _).mono ?_; rintro e w' ⟨rfl, rfl⟩)
    | (go_at_call 59; refine (pdq0 _ _).mono ?_; rintro e w' ⟨rfl, rfl⟩))
  go_end0
  exact ⟨rfl, rfl⟩
theorem twice0 (A : Option Addr) (cap : Nat) (w : World) : Calls Try.prog 46 #[.slice A 0 cap] w fun e w' => e = .returned (.bool false) ∧ w' = w := by
  go_enter Try.func46, Try.ntmps46
  go_wp2_with fail
  go_loopw [3, 4] (fun v i wr => v = .slice none 0 0 ∧ i = .int .i64 0 ∧ wr = w) (fun _ _ _ => 0)
  case atStart => exact ⟨rfl, rfl, rfl⟩
  case round =>
    obtain ⟨rfl, rfl, hw⟩ := hrel
    rw [hw]
    clear hw
    go_wp2_with (go_at_call 51; refine (sort0 _ _).mono ?_; rintro e w' ⟨rfl, rfl⟩)
    go_loopw [5] (fun i w2 => i = .int .i64 1 ∧ w2 = w') (fun _ _ => 0)
    case atStart => exact ⟨rfl, rfl⟩
    case round =>
      obtain ⟨rfl, rfl⟩ := hrel
      go_wp2_with fail
      go_ret
      exact ⟨rfl, rfl⟩
end Go.Proofs.Ytmihoeholcaokaa

/- The law's awake: the document's example. -/
namespace Go.Proofs.Ytmihoeholcaokaa
open Go.RowKit

def exI1 : It := .mk 0 1 ⟨#[]⟩ []
def exI2 : It := .mk 5 0 ⟨#[]⟩ []
def exI : It := .mk 4 0 ⟨#[]⟩ [exI1, exI2]
theorem exI_items : exI.items 1 = [(1, exI), (2, exI1), (2, exI2)] := by
  simp [exI, exI1, exI2, It.items, itemsL]
theorem exI_count : exI.count = 3 := by simp [exI, exI1, exI2, It.count, countL]
theorem exI_depth : exI.depth = 2 := by
  unfold It.depth
  rw [exI_items]
  rfl
theorem noText_empty : (⟨#[]⟩ : ByteArray).toList.isEmpty = true := by
  rw [ByteArray.toList_eq]
  rfl
theorem twiceB_nil : twiceB [] = false := by
  rw [twiceB_false]
  rintro ⟨i, j, hi, hj, _⟩
  simp [evens] at hj
theorem wrongI_ok {t : It} (h1 : formB t = true) (h2 : rangB t = true) (h3 : t.k ≠ 3) (h5 : t.k = 5 → twiceB t.l = false) : wrongI t = 0 := by
  unfold wrongI
  rw [if_neg (by rw [h1]; simp), if_neg (by rw [h2]; simp), if_neg (fun h => h3 h.1), if_neg (fun h => by rw [h5 h.1] at h; exact absurd h.2 (by simp))]
theorem exI_wrong : wrongI exI = 0 := wrongI_ok (by
  show formK 4 true (ByteArray.toList ⟨#[]⟩).isEmpty 2 = true
  rw [noText_empty]
  rfl) rfl (by decide) (fun h => absurd h (by decide))
theorem exI1_wrong : wrongI exI1 = 0 := wrongI_ok (by
  show formK 0 false (ByteArray.toList ⟨#[]⟩).isEmpty 0 = true
  rw [noText_empty]
  rfl) rfl (by decide) (fun h => absurd h (by decide))
theorem exI2_wrong : wrongI exI2 = 0 := wrongI_ok (by
  show formK 5 true (ByteArray.toList ⟨#[]⟩).isEmpty 0 = true
  rw [noText_empty]
  rfl) rfl (by decide) (fun _ => twiceB_nil)
theorem exI_check : checkR wrongI exI = 0 := by
  unfold checkR
  rw [exI_depth, exI_items, if_neg (by omega)]
  simp only [List.map_cons, List.map_nil, exI_wrong, exI1_wrong, exI2_wrong]
  rfl
/-- The example in memory. -/
theorem exI_at {w : World} {g : Nat} (h : Blk w g 39 #[.int .i64 0, .int .u64 1, .string ⟨#[]⟩, .slice none 0 0, .int .i64 5, .int .u64 0, .string ⟨#[]⟩, .slice none 0 0]) : AtB w (g + 1) exI (some ⟨g, 0, none⟩) 2 := by
  refine ⟨by simp [exI, It.l], (fun h => by cases h), ?_⟩
  refine AtL.mk (by omega) h.lt (At1.mk none 0 (by rw [h.cell]; rfl) (by rw [h.cell]; rfl) (by rw [h.cell]; rfl) (by rw [h.cell]; rfl) (by simp [exI1, It.l]) (fun _ => rfl) (AtL.nil _)) ?_
  refine AtL.mk (by omega) h.lt (At1.mk none 0 (by rw [h.cell]; rfl) (by rw [h.cell]; rfl) (by rw [h.cell]; rfl) (by rw [h.cell]; rfl) (by simp [exI2, It.l]) (fun _ => rfl) (AtL.nil _)) (AtL.nil _)
theorem exI_ok {d : Nat} {t : It} (h : (d, t) ∈ exI.items 1) : 0 ≤ t.n ∧ t.n < 18446744073709551616 ∧ t.s.size ≤ 1000000000 ∧ (t.k = 5 → t = exI2) := by
  rw [exI_items] at h
  simp only [List.mem_cons, Prod.mk.injEq, List.not_mem_nil, or_false] at h
  rcases h with ⟨_, rfl⟩ | ⟨_, rfl⟩ | ⟨_, rfl⟩
  · exact ⟨by decide, by decide, by decide, fun h => absurd h (by decide)⟩
  · exact ⟨by decide, by decide, by decide, fun h => absurd h (by decide)⟩
  · exact ⟨by decide, by decide, by decide, fun _ => rfl⟩

end Go.Proofs.Ytmihoeholcaokaa

/- Package item: twice. -/
namespace Go.Proofs.Ytmihoeholcaokaa
open Go.RowKit Go.Sort

theorem own_one {w : World} {t : It} {A : Option Addr} {cap n : Nat} (h : AtB w n t A cap) (hn : n ≤ w.heap.size) :
    OwnI (w.alloc (.cells #[.int .i64 t.k, .int .u64 t.n, .string t.s, .slice A t.l.length cap] 39)) n w.heap.size (.slice (some ⟨w.heap.size, 0, none⟩) 1 1) [t] :=
  ⟨_, oc_new w w.heap.size 39 4 1 #[.int .i64 t.k, .int .u64 t.n, .string t.s, .slice A t.l.length cap] rfl (Nat.le_refl _) (by unfold maxLen; omega), Lay.one (h.keep ((below_alloc w _).mono hn))⟩
theorem key_push {wr : World} {n B c : Nat} {v : Value} {ks : List It} {X : It} {A : Option Addr} (hown : OwnI wr n B v ks) (hX : AtB wr n X A c) (hB : B ≤ wr.heap.size) (hn : n ≤ B) (hsz : ks.length + 1 ≤ 1099511627776) :
    ∃ w2 v' w3, wr.alloc (.cells #[.int .i64 X.k, .int .u64 X.n, .string X.s, .slice A X.l.length c] 39) = w2 ∧ (Builtin.append_ #[37, 37] 37 #[v, .slice (some ⟨wr.heap.size, 0, none⟩) 1 1]).run Try.prog w2 = .ok v' w3 ∧
      OwnI w3 n B v' (ks ++ [X]) ∧ Below B wr w3 := by
  have S := below_alloc wr (.cells #[.int .i64 X.k, .int .u64 X.n, .string X.s, .slice A X.l.length c] 39)
  have o2 := own_one hX (Nat.le_trans hn hB)
  have o1 := hown.keepB S (Nat.le_trans hn hB)
  obtain ⟨v', w3, r1, r2, r3, _⟩ := run_append_items (ty := 37) o1 o2 (by simp) (by simpa using hsz) (Nat.le_trans hB S.size) hn
  exact ⟨_, v', w3, rfl, r1, r2, (S.mono hB).trans r3⟩
theorem evens_more {l : List It} {j : Nat} {X : It} (hj : j % 2 = 0) (hX : l[j]? = some X) : evens (l.take (j + 2)) = evens (l.take j) ++ [X] := by
  have hlt : j < l.length := by
    rcases Nat.lt_or_ge j l.length with h | h
    · exact h
    · rw [List.getElem?_eq_none h] at hX; cases hX
  obtain ⟨i, rfl⟩ : ∃ i, j = 2 * i := ⟨j / 2, by omega⟩
  rw [evens_take l i hlt]
  rw [List.getElem?_eq_getElem hlt] at hX
  injection hX with hX
  rw [hX]
theorem evens_short (l : List It) (j : Nat) : (evens (l.take j)).length ≤ l.length := by
  rw [length_evens, List.length_take]
  omega

set_option maxRecDepth 100000 in
set_option maxHeartbeats 4000000 in
theorem item_twice (l : List It) (A : Option Addr) (cap n : Nat) (w : World) (hc : countL l ≤ 1099511627775) (hn : n ≤ w.heap.size) (h : RL w n l A cap) :
    Calls Try.prog 46 #[.slice A l.length cap] w fun e w' => e = .returned (.bool (twiceB l)) ∧ Below w.heap.size w w' := by
  by_cases hl0 : l = []
  · subst hl0
    refine (twice0 A cap w).mono fun e w' he => ⟨?_, ?_⟩
    · rw [he.1, twiceB_nil]
    · rw [he.2]; exact Below.refl _ _
  have hpos : 0 < l.length := List.length_pos_iff.2 hl0
  have hlen := length_le_countL l
  have hml : (l.length : Int) < 1099511627776 := by omega
  have hke := length_evens l
  have HKC : RowKit.Hid (∀ t ∈ evens l, t.count ≤ 1099511627775) := Lib.hid fun t ht => Nat.le_trans (count_le_of_mem (mem_evens ht)) hc
  have HN := Lib.hid hn
  have HR := Lib.hid h
  have HLE := Lib.hid (fun _ : Unit => hlen)
  have HQP := Lib.hid (show 0 < (evens l).length by omega)
  have HQL := Lib.hid (show (evens l).length ≤ l.length by omega)
  obtain ⟨m, hm⟩ : ∃ m, l.length = m := ⟨_, rfl⟩
  rw [hm] at hpos hml ⊢
  have HM := Lib.hid hm
  have HC := Lib.hid (fun _ : Unit => hc)
  clear hm hc hn h hl0 hlen hke
  go_enter Try.func46, Try.ntmps46
  go_wp2_with fail
  go_loopw [3, 4] (fun v i wr => ∃ j : Nat, j ≤ m + 1 ∧ i = .int .i64 (j : Int) ∧ RowKit.Hid (j % 2 = 0) ∧ RowKit.Hid (OwnI wr n w.heap.size v (evens (l.take j))) ∧ RowKit.Hid (Below w.heap.size w wr)) (fun _ i _ => m + 1 - (intOf i).toNat)
  case atStart => exact ⟨0, by omega, rfl, Lib.hid rfl, Lib.hid ⟨[], World.ownsRow_nil _ _ _ _, rfl⟩, Lib.hid (Below.refl _ _)⟩
  case round =>
    obtain ⟨j, hj, rfl, HJ, HO, HB⟩ := hrel
    by_cases hlt : j < m
    · as_aux_lemma =>
      obtain ⟨b, o, X, A', c', rfl, -, hb1, hX, mX, x0, x1, x2, x3, hx⟩ := (HR.out.keep (HB.out.mono HN.out)).item (i := j) (by rw [HM.out]; exact hlt)
      obtain ⟨w2, v', w3, hw2, hr, ho3, hb3⟩ := key_push HO.out hx HB.out.size HN.out (by have := evens_short l j; have := HLE.out (); have := HC.out (); omega)
      have hji : (j : Int) < m := by omega
      have HRA := Lib.hid hr
      have HO3 := Lib.hid ho3
      have HB3 := Lib.hid hb3
      have HX := Lib.hid hX
      clear hr ho3 hb3 hX mX hx
      go_wp2_with ((with_reducible refine is_append 37 rfl ?_); (with_reducible refine wpList_append_run rfl rfl HRA.out ?_ ?_ ?_); (· rfl); (· rfl))
      go_roundw
      case rel =>
        refine ⟨j + 2, by omega, by simp, Lib.hid (by have := HJ.out; omega), Lib.hid ?_, Lib.hid (HB.out.trans HB3.out)⟩
        rw [evens_more HJ.out HX.out]
        exact HO3.out
      case measure => simp [intOf]; omega
    · have hall : l.take j = l := List.take_of_length_le (by rw [HM.out]; omega)
      have HO' := HO.out
      rw [hall] at HO'
      obtain ⟨g, cap', rfl, hle, hcap, hgB, hgs⟩ := HO'.form HQP.out
      have hsrt := run_sort HO' (Nat.le_trans HN.out hgB) hgs HKC.out (by have := HQL.out; have := HLE.out (); have := HC.out (); omega) hle
      obtain ⟨q, hq⟩ : ∃ q, (evens l).length = q := ⟨_, rfl⟩
      have hq1 : 1 ≤ q := by rw [← hq]; exact HQP.out
      have hqm : (q : Int) < 1099511627776 := by have := HQL.out; have := HM.out; omega
      rw [hq] at hsrt hle ⊢
      have HQ := Lib.hid hq
      have HS := Lib.hid hsrt
      have HGB := Lib.hid hgB
      have HGS := Lib.hid hgs
      clear hsrt hall hq HO' HO hgB hgs hcap hle
      go_wp2_with (go_at_call 51; refine HS.out.mono ?_; rintro e w2 ⟨rfl, d, hp, hs, hrl, hb2⟩; have HP := Lib.hid hp; have HSD := Lib.hid hs; have HRL := Lib.hid hrl; have HB2 := Lib.hid hb2; clear hp hs hrl hb2)
      have HDL : RowKit.Hid (d.length = q) := Lib.hid (by rw [HP.out.length_eq, HQ.out])
      have HBW : RowKit.Hid (Below w.heap.size w w2) := Lib.hid (HB.out.trans (HB2.out.toBelow.mono HGB.out))
      have HGS2 : RowKit.Hid (g < w2.heap.size) := Lib.hid (Nat.lt_of_lt_of_le HGS.out HB2.out.size)
      have HTW : RowKit.Hid (∀ _ : Unit, (twice l ↔ ∃ i, ∃ h : i + 1 < d.length, d[i] = d[i + 1])) := Lib.hid fun _ => twice_sorted HP.out HSD.out
      have HDC : RowKit.Hid (∀ t ∈ d, t.count ≤ 1099511627775) := Lib.hid fun t ht => HKC.out t (HP.out.mem_iff.1 ht)
      clear HS HB2 HSD HP HGS
      go_loopw [5] (fun i w3 => ∃ p : Nat, p + 1 ≤ q ∧ i = .int .i64 ((p + 1 : Nat) : Int) ∧ RowKit.Hid (∀ i, ∀ h : i + 1 < d.length, i < p → d[i] ≠ d[i + 1]) ∧ RowKit.Hid (Below w2.heap.size w2 w3)) (fun i _ => q - (intOf i).toNat)
      case atStart => exact ⟨0, by omega, rfl, Lib.hid fun i _ hi => absurd hi (by omega), Lib.hid (Below.refl _ _)⟩
      case round =>
        obtain ⟨p, hpq, rfl, HNE, HB3⟩ := hrel
        obtain ⟨z, hz⟩ : ∃ z : Nat, p + 1 = z := ⟨_, rfl⟩
        have HZ := Lib.hid hz
        have hzi : (z : Int) = p + 1 := by omega
        rw [hz]
        by_cases hlt : z < q
        · have hrl := HRL.out.keep (HB3.out.mono (show g + 1 ≤ w2.heap.size by have := HGS2.out; omega))
          obtain ⟨b1, o1, X, A1, c1, ea, -, hg1, hX, mX, x0, x1, x2, x3, hx⟩ := hrl.item (i := p) (by rw [HDL.out]; omega)
          injection ea with ea
          injection ea with eb eo
          subst eb eo
          obtain ⟨b2, o2, Y, A2, c2, ea, -, hg2, hY, mY, y0, y1, y2, y3, hy⟩ := hrl.item (i := z) (by rw [HDL.out]; omega)
          injection ea with ea
          injection ea with eb eo
          subst eb eo
          simp only [Nat.zero_add] at x0 x1 x2 x3 y0 y1 y2 y3
          have hgr : g + 1 ≤ wr.heap.size := hg1
          have D1 := fun d os => Calls.regrown_of (item_Same X Y A1 A2 c1 c2 (g + 1) (grow (redrawn wr d) os) (HDC.out X mX) (Nat.le_trans hgr (below_regrown wr d os).size) (hx.keep ((below_regrown wr d os).mono hgr)) (hy.keep ((below_regrown wr d os).mono hgr)))
          simp only [vI] at D1
          have HT : RowKit.Hid (sameB X Y = true → twiceB l = true) := Lib.hid fun h => twiceB_true.2 ((HTW.out ()).2 ⟨p, by have := HDL.out; omega, by
            have h1 := hX; have h2 := hY
            rw [← hz, List.getElem?_eq_getElem (by have := HDL.out; omega)] at h2
            rw [List.getElem?_eq_getElem (by have := HDL.out; omega)] at h1
            injection h1 with h1; injection h2 with h2
            rw [h1, h2]
            exact sameB_true.1 h⟩)
          have HF : RowKit.Hid (sameB X Y = false → ∀ i, ∀ h : i + 1 < d.length, i < p + 1 → d[i] ≠ d[i + 1]) := Lib.hid fun hs i h hi => by
            by_cases e : i = p
            · subst e
              have h1 := hX; have h2 := hY
              rw [← hz, List.getElem?_eq_getElem (by have := HDL.out; omega)] at h2
              rw [List.getElem?_eq_getElem (by have := HDL.out; omega)] at h1
              injection h1 with h1; injection h2 with h2
              rw [h1, h2]
              intro e
              rw [sameB_true.2 e] at hs
              cases hs
            · exact HNE.out i h (by omega)
          generalize sameB X Y = s at *
          have HD1 := Lib.hid D1
          have kx0 := cell_regrown x0
          have kx1 := cell_regrown x1
          have kx2 := cell_regrown x2
          have kx3 := cell_regrown x3
          have ky0 := cell_regrown y0
          have ky1 := cell_regrown y1
          have ky2 := cell_regrown y2
          have ky3 := cell_regrown y3
          have hp0 : IntKind.i64.wrap ((z : Int) - 1) = (p : Int) := by rw [IntWalk.i64_in _ (by omega)]; omega
          have hpi : (p : Int) < q := by omega
          clear D1 hX hY mX mY hx hy x0 x1 x2 x3 y0 y1 y2 y3 hrl hg1 hg2 hgr hzi hz
          go_wp2_with fail
          obtain ⟨wo, rfl⟩ : ∃ wo, wo = wr := ⟨_, rfl⟩
          refine wp_region_quiet_below (by kernel_rfl) (by kernel_rfl) ?_
          repeat (quiet_step (exact HD1.out _ _))
          refine wpQuiet_nil ?_
          intro _ hw'
          obtain ⟨⟨dq, osq⟩, hw''⟩ := hw'
          subst hw''
          have HB4 : RowKit.Hid (Below w2.heap.size w2 (grow (redrawn wo dq) osq)) := Lib.hid (HB3.out.trans ((below_regrown wo dq osq).mono HB3.out.size))
          clear kx0 kx1 kx2 kx3 ky0 ky1 ky2 ky3 HD1 hp0 hpi
          generalize grow (redrawn wo dq) osq = w4 at *
          cases s
          · have HNE' := Lib.hid (HF.out rfl)
            go_wp2_with fail
            go_roundw
            case rel => exact ⟨z, by omega, by simp, by rw [← HZ.out]; exact HNE', HB4⟩
            case measure => simp [intOf]; omega
          · have HT' := Lib.hid (HT.out rfl)
            go_wp2_with fail
            go_ret
            exact ⟨by rw [HT'.out]; rfl, HBW.out.trans (HB4.out.mono HBW.out.size)⟩
        · have HT' : RowKit.Hid (twiceB l = false) := Lib.hid (twiceB_false.2 fun h => by
            obtain ⟨i, hi, e⟩ := (HTW.out ()).1 h
            exact HNE.out i hi (by have := HDL.out; omega) e)
          clear hqm hml hpos
          have hzq : ¬ ((z : Int) < q) := by omega
          go_wp2_with fail
          go_ret
          exact ⟨by rw [HT'.out]; rfl, HBW.out.trans (HB3.out.mono HBW.out.size)⟩
end Go.Proofs.Ytmihoeholcaokaa
