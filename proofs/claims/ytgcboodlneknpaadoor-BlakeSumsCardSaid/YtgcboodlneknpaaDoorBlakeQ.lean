
/- Plain numbers: BLAKE2b-256 of what was handed. -/
import Derived.Test.YtgcboodlneknpaaDoorBlakeD
import Derived.Test.YtgcboodlneknpaaDoorCut
namespace Go.Proofs.YtgcboodlneknpaaDoor

/-- The k-th block of 128 bytes. -/
def bblk (l : List Int) (k : Nat) : List Int := (l.drop (128 * k)).take 128
/-- What the first k blocks come to, none of them the last one. -/
def bch (l : List Int) : Nat → List Int
  | 0 => zeros8B
  | k + 1 => mixed (bch l k) (bblk l k) ((128 * (k + 1) : Nat) : Int) false
theorem bch_zero (l : List Int) : bch l 0 = zeros8B := rfl
theorem bch_succ (l : List Int) (k : Nat) : bch l (k + 1) = mixed (bch l k) (bblk l k) ((128 * (k + 1) : Nat) : Int) false := rfl
theorem length_bch (l : List Int) : ∀ k, (bch l k).length = 8
  | 0 => rfl
  | k + 1 => by rw [bch_succ, length_mixed]
theorem in6_bch (l : List Int) : ∀ k, 128 * k < 18446744073709551616 → In6 (bch l k)
  | 0, _ => by rw [bch_zero]; unfold In6 zeros8B; decide
  | k + 1, h => by rw [bch_succ]; exact in6_mixed (in6_bch l k (by omega)) _ _ (by omega) _
attribute [irreducible] bch
theorem bblk_append (l m : List Int) (k : Nat) (h : 128 * (k + 1) ≤ l.length) : bblk (l ++ m) k = bblk l k := by
  unfold bblk
  rw [List.drop_append_of_le_length (by omega), List.take_append_of_le_length (by rw [List.length_drop]; omega)]
theorem bch_append (l m : List Int) : ∀ k, 128 * k ≤ l.length → bch (l ++ m) k = bch l k
  | 0, _ => by rw [bch_zero, bch_zero]
  | k + 1, h => by rw [bch_succ, bch_succ, bch_append l m k (by omega), bblk_append l m k h]
/-- How many blocks of n bytes are mixed: all but the last one. -/
def bnb (n : Nat) : Nat := (n - 1) / 128
/-- The cells of a digest that was handed l, with k blocks of it mixed. -/
def bC (l : List Int) (k : Nat) : Array Value := bdigC (bch l k) (pad (l.drop (128 * k)) 128) ((l.length - 128 * k : Nat) : Int) (l.length : Nat)
def bcells (l : List Int) : Array Value := bC l (bnb l.length)
theorem bnb_le (n : Nat) : 128 * bnb n ≤ n ∧ n ≤ 128 * bnb n + 128 := by unfold bnb; omega
theorem bnb_eq (n k : Nat) (h1 : 128 * k < n) (h2 : n ≤ 128 * k + 128) : bnb n = k := by unfold bnb; omega
theorem bC_size (l : List Int) (k : Nat) : (bC l k).size = 138 := by unfold bC; rw [bdigC_size, length_bch, length_pad]
theorem bC_held (l : List Int) (k : Nat) : (bC l k)[136]? = some (.int .i64 ((l.length - 128 * k : Nat) : Int)) := bdigC_held _ _ _ _ (length_bch _ _) (length_pad _ _)
theorem bC_len (l : List Int) (k : Nat) : (bC l k)[137]? = some (.int .u64 (l.length : Nat)) := bdigC_len _ _ _ _ (length_bch _ _) (length_pad _ _)
/-- A full block is mixed. -/
theorem bC_full (l : List Int) (k : Nat) (h : l.length = 128 * k + 128) : bdigC (mixed (bch l k) (pad (l.drop (128 * k)) 128) (l.length : Nat) false) (pad [] 128) 0 (l.length : Nat) = bC l (k + 1) := by
  have hd : (l.drop (128 * k)).length = 128 := by rw [List.length_drop]; omega
  have e1 : pad (l.drop (128 * k)) 128 = bblk l k := by
    have := pad_all (l.drop (128 * k))
    rw [hd] at this
    rw [this, bblk, List.take_of_length_le (by omega)]
  have e2 : l.drop (128 * (k + 1)) = [] := List.drop_eq_nil_of_le (by omega)
  unfold bC
  rw [e1, bch_succ, e2, h, show 128 * (k + 1) = 128 * k + 128 by omega, Nat.sub_self]
  rfl
/-- Bytes are laid behind. -/
theorem bC_append (l m : List Int) (k : Nat) (h1 : 128 * k ≤ l.length) : bC (l ++ m) k = bdigC (bch l k) (pad (l.drop (128 * k) ++ m) 128) ((l.length - 128 * k + m.length : Nat) : Int) ((l.length + m.length : Nat) : Int) := by
  unfold bC
  rw [bch_append l m k h1, List.drop_append_of_le_length h1, List.length_append, show l.length + m.length - 128 * k = l.length - 128 * k + m.length by omega]
def bzeros : List Int := zeros8B
/-- What copy makes of a digest's cells. -/
theorem copy_bdig (a r m : List Int) (h n : Int) (ha : a.length = 8) (hr : r.length + m.length ≤ 128) :
    ((bdigC a (pad r 128) h n).toList.take (8 + r.length) ++ m.map (Value.int .u8) ++ (bdigC a (pad r 128) h n).toList.drop (8 + r.length + m.length)).toArray = bdigC a (pad (r ++ m) 128) h n := by
  have e : (bdigC a (pad r 128) h n).toList = a.map (Value.int .u64) ++ ((pad r 128).map (Value.int .u8) ++ [.int .i64 h, .int .u64 n]) := by simp [bdigC, nums]
  have la : (a.map (Value.int .u64)).length = 8 := by rw [List.length_map, ha]
  have lp : ((pad r 128).map (Value.int .u8)).length = 128 := by rw [List.length_map, length_pad]
  have e1 : (bdigC a (pad r 128) h n).toList.take (8 + r.length) = a.map (Value.int .u64) ++ ((pad r 128).take r.length).map (Value.int .u8) := by
    rw [e, List.take_append, la, List.take_of_length_le (by rw [la]; omega), show 8 + r.length - 8 = r.length by omega, List.take_append_of_le_length (by rw [lp]; omega), List.map_take]
  have e2 : (bdigC a (pad r 128) h n).toList.drop (8 + r.length + m.length) = ((pad r 128).drop (r.length + m.length)).map (Value.int .u8) ++ [.int .i64 h, .int .u64 n] := by
    rw [e, List.drop_append, la, List.drop_eq_nil_of_le (by rw [la]; omega), List.nil_append, show 8 + r.length + m.length - 8 = r.length + m.length by omega, List.drop_append_of_le_length (by rw [lp]; omega), List.map_drop]
  rw [e1, e2, ← pad_copy 128 r m hr]
  simp [bdigC, nums]
/-- The digest's numbers, then its bytes. -/
def bend (l : List Int) : List Int := stL (mixed (bch l (bnb l.length)) (pad (l.drop (128 * bnb l.length)) 128) (l.length : Nat) true)
def le8s (l : List Int) : List Int := l.flatMap (le 8)
theorem length_le8s : ∀ l : List Int, (le8s l).length = 8 * l.length
  | [] => rfl
  | x :: r => by
    have := length_le8s r
    simp only [le8s, List.flatMap_cons, List.length_append, length_le, List.length_cons] at *
    omega
theorem le8s_snoc (l : List Int) (x : Int) : le8s (l ++ [x]) = le8s l ++ le 8 x := by simp [le8s]
theorem le8s_take (l : List Int) (k : Nat) (h : k < l.length) : le8s (l.take k) ++ le 8 (l.getD k 0) = le8s (l.take (k + 1)) := by rw [take_snoc l k h, le8s_snoc]
/-- BLAKE2b-256 of l. -/
def blakeL (l : List Int) : List Int := le8s ((bend l).take 4)
theorem length_bend (l : List Int) : (bend l).length = 8 := length_stL _
theorem length_blakeL (l : List Int) : (blakeL l).length = 32 := by unfold blakeL; rw [length_le8s, List.length_take, length_bend]; rfl
theorem in6_bend (l : List Int) (h : l.length < 18446744073709551616) : In6 (bend l) := in6_stL (in6_mixed (in6_bch _ _ (by have := bnb_le l.length; omega)) _ _ (by omega) _)
end Go.Proofs.YtgcboodlneknpaaDoor
