
/- Plain numbers: BLAKE2b-256 by blocks. -/
import Derived.Test.YtgcboodlneknpaaDoorBlakeA
import Derived.Test.YtgcboodlneknpaaDoorList
namespace Go.Proofs.YtgcboodlneknpaaDoor

def ivL : List Int := [7640891576956012808, 13503953896175478587, 4354685564936845355, 11912009170470909681, 5840696475078001361, 11170449401992604703, 2270897969802886507, 6620516959819538809]
def tableN : List Nat := [0, 1, 2, 3, 4, 5, 6, 7, 8, 9, 10, 11, 12, 13, 14, 15, 14, 10, 4, 8, 9, 15, 13, 6, 1, 12, 0, 2, 11, 7, 5, 3, 11, 8, 12, 0, 5, 2, 15, 13, 10, 14, 3, 6, 7, 1, 9, 4, 7, 9, 3, 1, 13, 12, 11, 14, 2, 6, 5, 10, 4, 0, 15, 8, 9, 0, 5, 7, 2, 4, 10, 15, 14, 1, 11, 12, 6, 8, 3, 13, 2, 12, 6, 10, 0, 11, 8, 3, 4, 13, 7, 5, 15, 14, 1, 9, 12, 5, 1, 15, 14, 13, 4, 10, 0, 7, 6, 3, 9, 2, 8, 11, 13, 11, 7, 14, 12, 1, 3, 9, 5, 0, 15, 4, 8, 6, 2, 10, 6, 15, 14, 9, 11, 3, 0, 8, 12, 2, 13, 7, 1, 4, 10, 5, 10, 2, 8, 4, 7, 6, 1, 5, 15, 11, 9, 14, 3, 12, 13, 0]
def tb (r c : Nat) : Nat := tableN.getD (r * 16 + c) 0
theorem tb_lt : ∀ r, r < 10 → ∀ c, c < 16 → tb r c < 16 := by decide
theorem in6_iv : In6 ivL := by unfold In6 ivL; decide
theorem length_iv : ivL.length = 8 := rfl
/-- Number i of the state. -/
def stN (ch : List Int) (i : Nat) : Int := if i = 0 then xor6 (xor6 (ivL.getD i 0) (ch.getD i 0)) 16842784 else xor6 (ivL.getD i 0) (ch.getD i 0)
def stL (ch : List Int) : List Int := (List.range 8).map (stN ch)
theorem length_stL (ch : List Int) : (stL ch).length = 8 := by simp [stL]
theorem getD_map_range (f : Nat → Int) (n i : Nat) (h : i < n) : ((List.range n).map f).getD i 0 = f i := by
  simp [List.getD_eq_getElem?_getD, h]
theorem in6_map (f : Nat → Int) (n : Nat) (h : ∀ i, i < n → 0 ≤ f i ∧ f i < 18446744073709551616) : In6 ((List.range n).map f) := fun c hc => by
  obtain ⟨i, hi, rfl⟩ := List.mem_map.1 hc
  exact h i (List.mem_range.1 hi)
theorem stN_range {ch : List Int} (h : In6 ch) (i : Nat) : 0 ≤ stN ch i ∧ stN ch i < 18446744073709551616 := by
  have h1 := xor6_range (in6_iv.get i) (h.get i)
  unfold stN
  split
  · exact xor6_range h1 (by decide)
  · exact h1
theorem in6_stL {ch : List Int} (h : In6 ch) : In6 (stL ch) := in6_map _ _ fun i _ => stN_range h i
/-- The 16 numbers in which a block's are mixed. -/
def begL (ch : List Int) (len : Int) (last : Bool) : List Int :=
  if last then ((stL ch ++ ivL).set 12 (xor6 (ivL.getD 4 0) len)).set 14 (xor6 18446744073709551615 (ivL.getD 6 0)) else (stL ch ++ ivL).set 12 (xor6 (ivL.getD 4 0) len)
theorem length_begL (ch : List Int) (len : Int) (last : Bool) : (begL ch len last).length = 16 := by
  unfold begL; split <;> simp [length_stL, length_iv]
theorem in6_append {a b : List Int} (ha : In6 a) (hb : In6 b) : In6 (a ++ b) := fun c hc => by
  rcases List.mem_append.1 hc with h | h
  · exact ha c h
  · exact hb c h
theorem in6_begL {ch : List Int} (h : In6 ch) (len : Int) (hlen : 0 ≤ len ∧ len < 18446744073709551616) (last : Bool) : In6 (begL ch len last) := by
  have h1 := (in6_append (in6_stL h) in6_iv).set 12 (xor6_range (in6_iv.get 4) hlen)
  unfold begL
  split
  · exact h1.set 14 (xor6_range (by decide) (in6_iv.get 6))
  · exact h1
/-- The 16 numbers of a block. -/
def word6 (blk : List Int) (i : Nat) : Int := big 18446744073709551616 (pad (blk.drop (8 * i)) 8).reverse
def numsL (blk : List Int) : List Int := (List.range 16).map (word6 blk)
theorem length_numsL (blk : List Int) : (numsL blk).length = 16 := by simp [numsL]
theorem in6_numsL (blk : List Int) : In6 (numsL blk) := in6_map _ _ fun _ _ => big_range _ _ (by decide)
/-- i of a round's eight steps. -/
def turnK (ms : List Int) (r : Nat) (v : List Int) : Nat → List Int
  | 0 => v
  | i + 1 => mixL (turnK ms r v i) (pl i 0) (pl i 1) (pl i 2) (pl i 3) (ms.getD (tb r (2 * i)) 0) (ms.getD (tb r (2 * i + 1)) 0)
theorem turnK_zero (ms : List Int) (r : Nat) (v : List Int) : turnK ms r v 0 = v := rfl
theorem turnK_succ (ms : List Int) (r : Nat) (v : List Int) (i : Nat) : turnK ms r v (i + 1) = mixL (turnK ms r v i) (pl i 0) (pl i 1) (pl i 2) (pl i 3) (ms.getD (tb r (2 * i)) 0) (ms.getD (tb r (2 * i + 1)) 0) := rfl
theorem length_turnK (ms : List Int) (r : Nat) (v : List Int) : ∀ i, (turnK ms r v i).length = v.length
  | 0 => rfl
  | i + 1 => by rw [turnK_succ, length_mixL, length_turnK ms r v i]
theorem in6_turnK (ms : List Int) (r : Nat) {v : List Int} (h : In6 v) : ∀ i, In6 (turnK ms r v i)
  | 0 => h
  | i + 1 => by rw [turnK_succ]; exact in6_mixL (in6_turnK ms r h i) _ _ _ _ _ _
attribute [irreducible] turnK
/-- n of the twelve rounds. -/
def roundsB (ms v : List Int) : Nat → List Int
  | 0 => v
  | r + 1 => turnK ms (r % 10) (roundsB ms v r) 8
theorem roundsB_zero (ms v : List Int) : roundsB ms v 0 = v := rfl
theorem roundsB_succ (ms v : List Int) (r : Nat) : roundsB ms v (r + 1) = turnK ms (r % 10) (roundsB ms v r) 8 := rfl
theorem length_roundsB (ms v : List Int) : ∀ r, (roundsB ms v r).length = v.length
  | 0 => rfl
  | r + 1 => by rw [roundsB_succ, length_turnK, length_roundsB ms v r]
theorem in6_roundsB (ms : List Int) {v : List Int} (h : In6 v) : ∀ r, In6 (roundsB ms v r)
  | 0 => h
  | r + 1 => by rw [roundsB_succ]; exact in6_turnK _ _ (in6_roundsB ms h r) _
attribute [irreducible] roundsB
/-- What a block comes to, put together with what the ones ahead of it came to. -/
def mixed (ch blk : List Int) (len : Int) (last : Bool) : List Int :=
  (List.range 8).map fun i => xor6 (ch.getD i 0) (xor6 ((roundsB (numsL blk) (begL ch len last) 12).getD i 0) ((roundsB (numsL blk) (begL ch len last) 12).getD (i + 8) 0))
theorem length_mixed (ch blk : List Int) (len : Int) (last : Bool) : (mixed ch blk len last).length = 8 := by simp [mixed]
theorem in6_mixed {ch : List Int} (h : In6 ch) (blk : List Int) (len : Int) (hlen : 0 ≤ len ∧ len < 18446744073709551616) (last : Bool) : In6 (mixed ch blk len last) :=
  in6_map _ _ fun i _ => xor6_range (h.get i) (xor6_range ((in6_roundsB _ (in6_begL h len hlen last) 12).get i) ((in6_roundsB _ (in6_begL h len hlen last) 12).get (i + 8)))
end Go.Proofs.YtgcboodlneknpaaDoor
