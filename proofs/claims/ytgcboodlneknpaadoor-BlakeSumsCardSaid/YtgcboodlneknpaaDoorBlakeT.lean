
/- Plain numbers: BLAKE2b-256 as the document's answer reckons it. -/
import Derived.Test.YtgcboodlneknpaaDoorBlakeR
import Derived.Test.YtgcboodlneknpaaDoorRefA
namespace Go.Proofs.YtgcboodlneknpaaDoor
open Go.RowKit

theorem xor6_nat (a b : Int) (ha : 0 ≤ a ∧ a < 18446744073709551616) (hb : 0 ≤ b ∧ b < 18446744073709551616) : xor6 a b = ((a.toNat ^^^ b.toNat : Nat) : Int) := u64_xor _ _ ha.1 ha.2 hb.1 hb.2
theorem xor6_assoc {a b c : Int} (ha : 0 ≤ a ∧ a < 18446744073709551616) (hb : 0 ≤ b ∧ b < 18446744073709551616) (hc : 0 ≤ c ∧ c < 18446744073709551616) : xor6 (xor6 a b) c = xor6 a (xor6 b c) := by
  have h1 := xor6_range ha hb
  have h2 := xor6_range hb hc
  rw [xor6_nat _ c h1 hc, xor6_nat a _ ha h2, xor6_nat a b ha hb, xor6_nat b c hb hc, Int.toNat_natCast, Int.toNat_natCast, Nat.xor_assoc]
theorem xor6_comm {a b : Int} (ha : 0 ≤ a ∧ a < 18446744073709551616) (hb : 0 ≤ b ∧ b < 18446744073709551616) : xor6 a b = xor6 b a := by
  rw [xor6_nat a b ha hb, xor6_nat b a hb ha, Nat.xor_comm]
/-- A block behind the state: the same number by number. -/
theorem stN_mixed {ch : List Int} (hc : In6 ch) (blk : List Int) (len : Int) (hlen : 0 ≤ len ∧ len < 18446744073709551616) (last : Bool) (i : Nat) (hi : i < 8) :
    xor6 (xor6 (stN ch i) ((roundsB (numsL blk) (begL ch len last) 12).getD i 0)) ((roundsB (numsL blk) (begL ch len last) 12).getD (i + 8) 0) = stN (mixed ch blk len last) i := by
  have hV := in6_roundsB (numsL blk) (in6_begL hc len hlen last) 12
  have h1 := hV.get i
  have h2 := hV.get (i + 8)
  have e := getD_mixed ch blk len last i hi
  have h3 := hc.get i
  have h4 := in6_iv.get i
  generalize (roundsB (numsL blk) (begL ch len last) 12).getD i 0 = x at *
  generalize (roundsB (numsL blk) (begL ch len last) 12).getD (i + 8) 0 = y at *
  unfold stN
  rw [e]
  generalize ch.getD i 0 = c at *
  generalize ivL.getD i 0 = v at *
  have hvc := xor6_range h4 h3
  have hxy := xor6_range h1 h2
  have hs : (0 : Int) ≤ 16842784 ∧ (16842784 : Int) < 18446744073709551616 := by decide
  by_cases h0 : i = 0
  · rw [if_pos h0, if_pos h0, xor6_assoc (xor6_range hvc hs) h1 h2, xor6_assoc hvc hs hxy, xor6_comm hs hxy, ← xor6_assoc hvc hxy hs, xor6_assoc h4 h3 hxy]
  · rw [if_neg h0, if_neg h0, xor6_assoc hvc h1 h2, xor6_assoc h4 h3 hxy]
theorem stL_zero : stL zeros8B = ivL.set 0 (xor6 (ivL.getD 0 0) 16842784) := by decide +kernel
/-- The k-th block, filled up. -/
def blkP (l : List Int) (k : Nat) : List Int := pad (l.drop (128 * k)) 128
/-- The state ahead of block k. -/
def hS (l : List Int) (k : Nat) : List Int := if k ≤ bnb l.length then stL (bch l k) else bend l
theorem length_hS (l : List Int) (k : Nat) : (hS l k).length = 8 := by
  unfold hS; split
  · exact length_stL _
  · exact length_bend l
theorem hS_zero (l : List Int) : hS l 0 = stL zeros8B := by unfold hS; rw [if_pos (Nat.zero_le _), bch_zero]
theorem hS_end (l : List Int) (k : Nat) (h : bnb l.length < k) : hS l k = bend l := by unfold hS; rw [if_neg (by omega)]
theorem hS_at (l : List Int) (k : Nat) (h : k ≤ bnb l.length) : hS l k = stL (bch l k) := by unfold hS; rw [if_pos h]
theorem blkP_whole (l : List Int) (k : Nat) (h : 128 * k + 128 ≤ l.length) : blkP l k = bblk l k := by
  unfold blkP bblk
  apply ext_getD _ _ (by rw [length_pad, List.length_take, List.length_drop]; omega)
  intro i hi
  rw [length_pad] at hi
  rw [getD_pad _ _ _ hi, getD_take _ _ _ hi]
theorem hS_succ (l : List Int) (k : Nat) (h : k ≤ bnb l.length) (t : Nat) (ht : t = min (128 * (k + 1)) l.length) (last : Bool) (hlast : last = decide (k = bnb l.length)) :
    hS l (k + 1) = stL (mixed (bch l k) (blkP l k) (t : Nat) last) := by
  have hb := bnb_le l.length
  by_cases hk : k = bnb l.length
  · rw [hS_end l (k + 1) (by omega), hlast, decide_eq_true hk]
    have e : t = l.length := by omega
    unfold bend
    rw [e, hk]
    rfl
  · have hn : l.length ≠ 0 := fun h0 => by rw [h0] at h hk; unfold bnb at h hk; omega
    have hlt : 128 * (k + 1) < l.length := by unfold bnb at *; omega
    rw [hS_at l (k + 1) (by omega), hlast, decide_eq_false hk, bch_succ, ← blkP_whole l k (by omega), show t = 128 * (k + 1) by omega]
theorem hS_getD (l : List Int) (k : Nat) (h : k ≤ bnb l.length) (t : Nat) (ht : t = min (128 * (k + 1)) l.length) (hl : l.length < 9223372036854775808) (last : Bool) (hlast : last = decide (k = bnb l.length)) (i : Nat) (hi : i < 8) :
    (hS l (k + 1)).getD i 0 = xor6 (xor6 ((hS l k).getD i 0) ((roundsB (numsL (blkP l k)) (begL (bch l k) (t : Nat) last) 12).getD i 0)) ((roundsB (numsL (blkP l k)) (begL (bch l k) (t : Nat) last) 12).getD (i + 8) 0) := by
  have hb := bnb_le l.length
  rw [hS_succ l k h t ht last hlast, hS_at l k h]
  unfold stL
  rw [getD_map_range _ _ _ hi, getD_map_range _ _ _ hi]
  exact (stN_mixed (in6_bch l k (by omega)) (blkP l k) (t : Nat) (by omega) last i hi).symm
theorem in6_hS (l : List Int) (k : Nat) (hl : l.length < 9223372036854775808) : In6 (hS l k) := by
  have hb := bnb_le l.length
  unfold hS; split
  · exact in6_stL (in6_bch l k (by omega))
  · exact in6_bend l (by omega)
/-- A number of a block, read out of the whole text. -/
theorem word6_at (l : List Int) (k i : Nat) (hi : i < 16) : (numsL (blkP l k)).getD i 0 = big 18446744073709551616 (pad (l.drop (128 * k + 8 * i)) 8).reverse := by
  rw [getD_numsL _ _ hi]
  unfold word6 blkP
  congr 2
  apply ext_getD _ _ (by rw [length_pad, length_pad])
  intro j hj
  rw [length_pad] at hj
  rw [getD_pad _ _ _ hj, getD_pad _ _ _ hj, getD_drop, getD_pad _ _ _ (by omega), getD_drop, getD_drop]
  congr 1; omega
/-- The numbers in which a block's are mixed, as the document's answer lays them. -/
theorem begL_eq (ch : List Int) (len : Int) : (((stL ch ++ ivL).set 12 (xor6 ((stL ch ++ ivL).getD 12 0) len)) = begL ch len false) ∧ ((begL ch len false).set 14 (18446744073709551615 - (begL ch len false).getD 14 0) = begL ch len true) := by
  have e12 : (stL ch ++ ivL).getD 12 0 = ivL.getD 4 0 := by rw [getD_append_right _ _ _ (by rw [length_stL]; decide), length_stL]
  have e14 : (stL ch ++ ivL).getD 14 0 = ivL.getD 6 0 := by rw [getD_append_right _ _ _ (by rw [length_stL]; decide), length_stL]
  have h14 : (begL ch len false).getD 14 0 = ivL.getD 6 0 := by
    show ((stL ch ++ ivL).set 12 (xor6 (ivL.getD 4 0) len)).getD 14 0 = _
    rw [getD_setne _ _ _ _ (by decide), e14]
  refine ⟨by rw [e12]; rfl, ?_⟩
  rw [h14, show 18446744073709551615 - ivL.getD 6 0 = xor6 18446744073709551615 (ivL.getD 6 0) by decide +kernel]
  rfl
theorem getD_beg14 (ch : List Int) (len : Int) : (begL ch len false).getD 14 0 = 2270897969802886507 := by
  show ((stL ch ++ ivL).set 12 (xor6 (ivL.getD 4 0) len)).getD 14 0 = _
  rw [getD_setne _ _ _ _ (by decide), getD_append_right _ _ _ (by rw [length_stL]; decide), length_stL]
  rfl
theorem blocks_eq (n : Nat) : (if (n + 127) / 128 = 0 then 1 else (n + 127) / 128) = bnb n + 1 := by unfold bnb; split <;> omega

/-- The row of the table. -/
def rowL (r : Nat) : List Int := (List.range 16).map fun c => ((tb (r % 10) c : Nat) : Int)
theorem length_rowL (r : Nat) : (rowL r).length = 16 := by simp [rowL]
theorem getD_rowL (r c : Nat) (h : c < 16) : (rowL r).getD c 0 = ((tb (r % 10) c : Nat) : Int) := getD_map_range _ _ _ h
theorem rowL_at (j : Nat) (_h : j < 10) : ∀ r, r % 10 = j → rowL r = (List.range 16).map fun c => ((tb j c : Nat) : Int) := fun r hr => by unfold rowL; rw [hr]
set_option maxHeartbeats 4000000 in
theorem ref_row (w : World) (r : Nat) (hr : r < 1000) :
    Calls Tryd.prog 15 #[.int .i64 r] w fun e w' => e = .returned (.slice (some ⟨w.heap.size, 0, none⟩) 16 16) ∧ Blk w' w.heap.size 3 (nums .i64 (rowL r)) ∧ Below w.heap.size w w' := by
  have hj : r % 10 = 0 ∨ r % 10 = 1 ∨ r % 10 = 2 ∨ r % 10 = 3 ∨ r % 10 = 4 ∨ r % 10 = 5 ∨ r % 10 = 6 ∨ r % 10 = 7 ∨ r % 10 = 8 ∨ r % 10 = 9 := by omega
  rcases hj with h | h | h | h | h | h | h | h | h | h <;>
  · have E := Lib.hid (rowL_at _ (by decide) r h)
    have hm : (r : Int) % 10 = ((r % 10 : Nat) : Int) := by omega
    rw [h] at hm
    simp at hm
    clear h
    go_enter Tryd.func15, Tryd.ntmps15
    go_wp2_with fail
    go_ret
    exact ⟨rfl, by rw [E.out]; exact Blk.fresh _ _ _, below_alloc _ _⟩
theorem ref_first (w : World) :
    Calls Tryd.prog 13 #[] w fun e w' => e = .returned (.slice (some ⟨w.heap.size, 0, none⟩) 8 8) ∧ Blk w' w.heap.size 30 (nums .u64 ivL) ∧ Below w.heap.size w w' := by
  go_enter Tryd.func13, Tryd.ntmps13
  go_wp2_with fail
  go_ret
  exact ⟨rfl, Blk.fresh _ _ _, below_alloc _ _⟩
end Go.Proofs.YtgcboodlneknpaaDoor
