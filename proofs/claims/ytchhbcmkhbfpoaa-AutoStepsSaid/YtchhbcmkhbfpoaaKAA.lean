/- Own words for memory: a slice that reads as numbers; a block that is known whole. -/
import Derived.WalkKit
import Derived.ProofKit
import Derived.OpenShut
import Derived.WalkLawsBesides
import Derived.WalkSpells
import Derived.Handy
import Derived.BigQuiet
import Derived.Lib.Hide
import Derived.Deep.QuietTactic
import Derived.Deep.LoopGhost
import Derived.Laws.BitsAllLaws
import Derived.Laws.Shifts
import Derived.Test.YtchhbcmkhbfpoaaRows
import Derived.Laws.IdiomCopy
namespace Go.Proofs.Ytchhbcmkhbfpoaa
open Go.RowKit

theorem ret_num {k : IntKind} {a b : Int} (h : a = b) : Ending.returned (.int k a) = .returned (.int k b) := by rw [h]

/-- In w the memory at A, below block B, reads as the numbers zs of kind k. -/
def Rd (w : World) (B : Nat) (k : IntKind) (A : Option Addr) (zs : List Int) : Prop :=
  0 < zs.length → ∃ b o, A = some ⟨b, o, none⟩ ∧ b < B ∧ ∀ i, i < zs.length → w.cell? ⟨b, o + i, none⟩ = some (.int k (zs.getD i 0))

section
variable {w w' : World} {B B' : Nat} {k : IntKind} {A : Option Addr} {zs : List Int}
theorem Rd.get (h : Rd w B k A zs) {i : Nat} (hi : i < zs.length) : ∃ b o, A = some ⟨b, o, none⟩ ∧ b < B ∧ w.cell? ⟨b, o + i, none⟩ = some (.int k (zs.getD i 0)) := by
  obtain ⟨b, o, hA, hb, hc⟩ := h (by omega)
  exact ⟨b, o, hA, hb, hc i hi⟩
theorem Rd.keep (h : Rd w B k A zs) (hk : ∀ p : Addr, p.block < B → w'.cell? p = w.cell? p) : Rd w' B k A zs := fun hn => by
  obtain ⟨b, o, hA, hb, hc⟩ := h hn
  exact ⟨b, o, hA, hb, fun i hi => (hk _ hb).trans (hc i hi)⟩
theorem Rd.more (h : Rd w B k A zs) (hB : B ≤ B') : Rd w B' k A zs := fun hn => by
  obtain ⟨b, o, hA, hb, hc⟩ := h hn
  exact ⟨b, o, hA, by omega, hc⟩
theorem Rd.below (h : Rd w B k A zs) (hb : Below B w w') : Rd w' B k A zs := h.keep fun _ hp => hb.cell hp
theorem Rd.drewN (h : Rd w B k A zs) (n : Nat) : Rd (w.drewN n) B k A zs := h
theorem Rd.drew (h : Rd w B k A zs) : Rd w.drew B k A zs := h
/-- Carried to a world in which nothing below the heap's old size has turned. -/
theorem Rd.on (h : Rd w w.heap.size k A zs) (hb : Below w.heap.size w w') : Rd w' w'.heap.size k A zs := (h.below hb).more hb.size
end

/-- Block g is just the cells cs. -/
def Blk (w : World) (g : Nat) (t : TypeId) (cs : Array Value) : Prop := w.heap[g]? = some (.cells cs t (0, 0))
section
variable {w w' : World} {B g : Nat} {t : TypeId} {cs : Array Value}
theorem Blk.lt (h : Blk w g t cs) : g < w.heap.size := (Array.getElem?_eq_some_iff.1 h).1
theorem Blk.cell (h : Blk w g t cs) (i : Nat) : w.cell? ⟨g, i, none⟩ = cs[i]? := cell_of_row w g i cs t (0, 0) h
theorem Blk.free (h : Blk w g t cs) (i : Nat) : w.frozen? ⟨g, i, none⟩ = false := by
  unfold Blk at h
  simp [World.frozen?, h]
theorem Blk.fresh (w : World) (t : TypeId) (cs : Array Value) : Blk (w.alloc (.cells cs t)) w.heap.size t cs := by
  show (w.heap.push _)[w.heap.size]? = _
  simp
theorem Blk.below (h : Blk w g t cs) (hb : Below B w w') (hg : g < B) : Blk w' g t cs := (hb.block g hg).trans h
theorem Blk.on (h : Blk w g t cs) (hb : Below w.heap.size w w') : Blk w' g t cs := h.below hb h.lt
theorem Blk.alloc (h : Blk w g t cs) (o : Obj) : Blk (w.alloc o) g t cs := (Below.heap_alloc w o g h.lt).trans h
theorem Blk.put (h : Blk w g t cs) (i : Nat) (u : Value) : Blk (w.setCell ⟨g, i, none⟩ u) g t (cs.setIfInBounds i u) := by
  unfold Blk at h ⊢
  simp [World.setCell, Array.getElem?_modify, h]
theorem Blk.far (h : Blk w g t cs) {p : Addr} (hp : g ≠ p.block) (u : Value) : Blk (w.setCell p u) g t cs := (Below.heap_setCell w p u g hp).trans h
end
/-- The cells of numbers. -/
def nums (k : IntKind) (zs : List Int) : Array Value := (zs.map (Value.int k)).toArray
theorem nums_get (k : IntKind) (zs : List Int) (i : Nat) (hi : i < zs.length) : (nums k zs)[i]? = some (.int k (zs.getD i 0)) := by
  simp [nums, List.getD, hi]
theorem Blk.rd {w : World} {g : Nat} {t : TypeId} {k : IntKind} {zs : List Int} (h : Blk w g t (nums k zs)) : Rd w w.heap.size k (some ⟨g, 0, none⟩) zs :=
  fun _ => ⟨g, 0, rfl, h.lt, fun i hi => by rw [Nat.zero_add, h.cell, nums_get k zs i hi]⟩
theorem nums_put (k : IntKind) (zs : List Int) (i : Nat) (u : Int) : (nums k zs).setIfInBounds i (.int k u) = nums k (zs.set i u) := by
  simp [nums, List.map_set]

/-- Between the worlds only block g has turned, and new ones have come. -/
def Only (g : Nat) (w w' : World) : Prop := w.grownBy w' (some g)
section
variable {w w' w'' : World} {B g : Nat}
theorem Only.refl (g : Nat) (w : World) : Only g w w := World.grownBy.refl w _
theorem Only.drew (h : Only g w w') : Only g w w'.drew := ⟨h.os, h.tape, h.output, h.size, h.block⟩
theorem Only.drewN (h : Only g w w') (n : Nat) : Only g w (w'.drewN n) := ⟨h.os, h.tape, h.output, h.size, h.block⟩
theorem Only.put (h : Only g w w') (o : Nat) (u : Value) : Only g w (w'.setCell ⟨g, o, none⟩ u) :=
  ⟨h.os, h.tape, h.output, by simpa [World.setCell] using h.size, fun i hi hne => (Below.heap_setCell w' _ u i (fun e => hne (by simp [e]))).trans (h.block i hi hne)⟩
theorem Only.trans (h : Only g w w') (k : Only g w' w'') : Only g w w'' :=
  ⟨k.os.trans h.os, k.tape.trans h.tape, k.output.trans h.output, Nat.le_trans h.size k.size, fun i hi hne => (k.block i (Nat.lt_of_lt_of_le hi h.size) hne).trans (h.block i hi hne)⟩
/-- If g is a block of the call's own. -/
theorem Only.below (h : Only g w w') (hB : B ≤ g) (hs : B ≤ w.heap.size) : Below B w w' :=
  ⟨h.os, h.tape, h.output, h.size, fun i hi => h.block i (by omega) (fun e => by injection e with e; omega)⟩
end
theorem below_alloc (w : World) (o : Obj) : Below w.heap.size w (w.alloc o) := (Below.refl _ _).alloc (Nat.le_refl _) o
end Go.Proofs.Ytchhbcmkhbfpoaa

/- Plain numbers: the number of bytes, the greatest one first. -/
namespace Go.Proofs.Ytchhbcmkhbfpoaa

/-- The number of the bytes l modulo M. -/
def big (M : Int) (l : List Int) : Int := l.foldl (fun x c => (x * 256 + c) % M) 0
def ByteL (l : List Int) : Prop := ∀ c ∈ l, 0 ≤ c ∧ c < 256
/-- The first n, missing ones 0. -/
def pad (l : List Int) (n : Nat) : List Int := (List.range n).map fun i => l.getD i 0

theorem big_nil (M : Int) : big M [] = 0 := rfl
theorem big_snoc (M : Int) (l : List Int) (c : Int) : big M (l ++ [c]) = (big M l * 256 + c) % M := by simp [big]
theorem big_range (M : Int) (l : List Int) (hM : 0 < M) : 0 ≤ big M l ∧ big M l < M := by
  rcases List.eq_nil_or_concat l with rfl | ⟨a, c, rfl⟩
  · simp [big, hM]
  · rw [List.concat_eq_append, big_snoc]
    exact ⟨Int.emod_nonneg _ (by omega), Int.emod_lt_of_pos _ hM⟩
theorem take_snoc (l : List Int) (k : Nat) (h : k < l.length) : l.take (k + 1) = l.take k ++ [l.getD k 0] := by
  rw [List.take_succ_eq_append_getElem h]; simp [List.getD, h]
theorem big_take (M : Int) (l : List Int) (k : Nat) (h : k < l.length) : big M (l.take (k + 1)) = (big M (l.take k) * 256 + l.getD k 0) % M := by
  rw [take_snoc l k h, big_snoc]
theorem ByteL.get {l : List Int} (h : ByteL l) (k : Nat) : 0 ≤ l.getD k 0 ∧ l.getD k 0 < 256 := by
  by_cases hk : k < l.length
  · have : l.getD k 0 = l[k] := by simp [List.getD, hk]
    rw [this]; exact h _ (List.getElem_mem _)
  · have : l.getD k 0 = 0 := by simp [List.getD, List.getElem?_eq_none (Nat.le_of_not_lt hk)]
    rw [this]; decide
theorem ByteL.pad {l : List Int} (h : ByteL l) (n : Nat) : ByteL (pad l n) := by
  intro c hc
  simp only [Proofs.Ytchhbcmkhbfpoaa.pad, List.mem_map] at hc
  obtain ⟨i, _, rfl⟩ := hc
  exact h.get i
theorem length_pad (l : List Int) (n : Nat) : (pad l n).length = n := by simp [pad]
theorem pad_succ (l : List Int) (n : Nat) : pad l (n + 1) = pad l n ++ [l.getD n 0] := by simp [pad, List.range_succ]
theorem pad_all (l : List Int) : pad l l.length = l := by
  apply List.ext_getElem
  · simp [pad]
  · intro i h1 h2
    simp [pad, List.getD, h2]
theorem big_pad (M : Int) (l : List Int) (n : Nat) : big M (pad l (n + 1)) = (big M (pad l n) * 256 + l.getD n 0) % M := by
  rw [pad_succ, big_snoc]

theorem or_low (x c : Int) (M : Int) (hM : 0 < M) (hd : (256 : Int) ∣ M) (_hx : 0 ≤ x) (hc : 0 ≤ c) (hc' : c < 256) :
    (((x * 256 % M).toNat ||| c.toNat : Nat) : Int) = (x * 256 + c) % M := by
  obtain ⟨m, rfl⟩ := hd
  have hm : 0 < m := by omega
  have e1 : x * 256 % (256 * m) = 256 * (x % m) := by rw [Int.mul_comm x, Int.mul_emod_mul_of_pos _ _ (by decide)]
  have h0 : 0 ≤ x % m := Int.emod_nonneg _ (by omega)
  have h1 : x % m < m := Int.emod_lt_of_pos _ hm
  have e2 : (x * 256 + c) % (256 * m) = 256 * (x % m) + c := by
    have hx' : x * 256 + c = (256 * (x % m) + c) + (256 * m) * (x / m) := by
      have := Int.emod_add_mul_ediv x m
      rw [Int.mul_assoc]
      omega
    rw [hx', Int.add_mul_emod_self_left, Int.emod_eq_of_lt (by omega)]
    omega
  rw [e1, e2]
  obtain ⟨X, hX⟩ := Int.eq_ofNat_of_zero_le h0
  obtain ⟨C, rfl⟩ := Int.eq_ofNat_of_zero_le hc
  rw [hX]
  have hC : C < 2 ^ 8 := by omega
  have e3 : (256 * (X : Int)).toNat = 2 ^ 8 * X := by omega
  rw [e3, Int.toNat_natCast, ← Nat.two_pow_add_eq_or_of_lt hC]
  omega

theorem or_step32 (x c : Int) (hx : 0 ≤ x) (hc : 0 ≤ c ∧ c < 256) : bits BinOp.or IntKind.u32 (x * 256 % 4294967296) c = (x * 256 + c) % 4294967296 := by
  rw [u32_or _ _ (by omega) (by omega) hc.1 (by omega)]
  exact or_low x c _ (by decide) ⟨16777216, by decide⟩ hx hc.1 hc.2
theorem or_step64 (x c : Int) (hx : 0 ≤ x) (hc : 0 ≤ c ∧ c < 256) : bits BinOp.or IntKind.u64 (x * 256 % 18446744073709551616) c = (x * 256 + c) % 18446744073709551616 := by
  rw [u64_or _ _ (by omega) (by omega) hc.1 (by omega)]
  exact or_low x c _ (by decide) ⟨72057594037927936, by decide⟩ hx hc.1 hc.2
theorem mod_step (x c M : Int) : (x * 256 % M + c) % M = (x * 256 + c) % M := by rw [Int.emod_add_emod]
end Go.Proofs.Ytchhbcmkhbfpoaa

/- The contracts of what reads a number out of bytes. -/
namespace Go.Proofs.Ytchhbcmkhbfpoaa
open Go.RowKit

set_option maxHeartbeats 400000 in
/-- The document's answer: the number of n bytes from a place on, missing ones 0. -/
theorem refNumber (w : World) (B : Nat) (A : Option Addr) (cap : Nat) (zs : List Int) (n : Nat) (hr : Rd w B .u8 A zs) (hb : ByteL zs) (hl : zs.length ≤ 9223372036854775807) (hn : n ≤ 9223372036854775807) :
    Calls Try.prog 42 #[.slice A zs.length cap, .int .i64 0, .int .i64 n] w fun e w' => e = .returned (.int .u64 (big 18446744073709551616 (pad zs n))) ∧ w = w' := by
  go_enter Try.func42, Try.ntmps42
  go_wp2
  go_loop [7, 8] (fun x i => ∃ k : Nat, k ≤ n ∧ i = .int .i64 k ∧ x = .int .u64 (big 18446744073709551616 (pad zs k))) (fun _ i => n - (intOf i).toNat)
  case atStart => exact ⟨0, Nat.zero_le _, rfl, rfl⟩
  case round =>
    obtain ⟨k, hk, rfl, rfl⟩ := hrel
    by_cases hlt : k < n
    · have hx := (big_range 18446744073709551616 (pad zs k) (by decide)).1
      have hx1 := (big_range 18446744073709551616 (pad zs k) (by decide)).2
      by_cases hin : k < zs.length
      · obtain ⟨b, o, rfl, _, hc⟩ := hr.get hin
        have HS := Lib.hid ((mod_step _ _ _).trans (big_pad 18446744073709551616 zs k).symm)
        have hb0 := (hb.get k).1
        have hb1 := (hb.get k).2
        generalize zs.getD k 0 = c at hc HS hb0 hb1
        go_wp2
        go_round
        case rel => exact ⟨k + 1, by omega, by go_num, by simp only [IntKind.wrap_u64]; rw [HS.out]⟩
        case measure => simp [intOf]; omega
      · have h0 : zs.getD k 0 = 0 := by simp [List.getD, List.getElem?_eq_none (Nat.le_of_not_lt hin)]
        have HS := Lib.hid ((big_pad 18446744073709551616 zs k).symm)
        rw [h0] at HS
        clear h0
        go_wp2
        go_round
        case rel => exact ⟨k + 1, by omega, by go_num, by rw [IntKind.wrap_u64, ← HS.out, Int.add_zero]⟩
        case measure => simp [intOf]; omega
    · have : k = n := by omega
      subst this
      go_wp2
      go_ret
      exact ⟨rfl, rfl⟩
end Go.Proofs.Ytchhbcmkhbfpoaa

/- The contracts of what lays numbers as bytes. -/
namespace Go.Proofs.Ytchhbcmkhbfpoaa
open Go.RowKit

theorem getD_rev_pad (zs : List Int) (k : Nat) (hk : k < 8) : ((pad zs 8).reverse).getD k 0 = zs.getD (7 - k) 0 := by
  have hl : k < (pad zs 8).length := by rw [length_pad]; exact hk
  rw [List.getD_eq_getElem?_getD, List.getElem?_reverse hl, length_pad]
  simp [pad, show 8 - 1 - k < 8 by omega]
theorem rev_step (zs : List Int) (m : Nat) (hm : m < 8) :
    big 18446744073709551616 ((pad zs 8).reverse.take (8 - m)) = (big 18446744073709551616 ((pad zs 8).reverse.take (8 - (m + 1))) * 256 % 18446744073709551616 + zs.getD m 0) % 18446744073709551616 := by
  rw [mod_step, show 8 - m = (8 - (m + 1)) + 1 by omega, big_take _ _ _ (by rw [List.length_reverse, length_pad]; omega), getD_rev_pad _ _ (by omega), show 7 - (8 - (m + 1)) = m by omega]

/-- The n bytes of x, the least one first. -/
def le (n : Nat) (x : Int) : List Int := (List.range n).map fun i => x / 256 ^ i % 256
theorem length_le (n : Nat) (x : Int) : (le n x).length = n := by simp [le]
theorem le_succ (n : Nat) (x : Int) : le (n + 1) x = le n x ++ [x / 256 ^ n % 256] := by simp [le, List.range_succ]
theorem byte_le (n : Nat) (x : Int) : ByteL (le n x) := by
  intro c hc
  simp only [le, List.mem_map] at hc
  obtain ⟨i, _, rfl⟩ := hc
  omega
theorem laid_step (zs : List Int) (k : Nat) (x : Int) (h : k < zs.length) : (le k x ++ zs.drop k).set k (x / 256 ^ k % 256) = le (k + 1) x ++ zs.drop (k + 1) := by
  rw [List.set_append_right _ _ (by rw [length_le]; exact Nat.le_refl _), length_le, Nat.sub_self, List.drop_eq_getElem_cons h, List.set_cons_zero, le_succ, List.append_assoc]
  rfl
theorem div_step (x : Int) (k : Nat) : x / 256 ^ k / 256 = x / 256 ^ (k + 1) := by
  rw [Int.pow_succ, Int.ediv_ediv_of_nonneg (Int.le_of_lt (Int.pow_pos (by decide)))]

theorem getD_set (l : List Int) (i j : Nat) (u : Int) (h : i < l.length) : (l.set i u).getD j 0 = if i = j then u else l.getD j 0 := by
  simp only [List.getD_eq_getElem?_getD, List.getElem?_set]
  by_cases e : i = j
  · subst e; simp [h]
  · simp [e]
/-- zs with its first k turned round against the last k. -/
def swapped (zs : List Int) (k : Nat) : List Int := (List.range zs.length).map fun i => if i < k ∨ zs.length ≤ i + k then zs.getD (zs.length - 1 - i) 0 else zs.getD i 0
theorem length_swapped (zs : List Int) (k : Nat) : (swapped zs k).length = zs.length := by simp [swapped]
theorem getD_swapped (zs : List Int) (k i : Nat) (h : i < zs.length) : (swapped zs k).getD i 0 = if i < k ∨ zs.length ≤ i + k then zs.getD (zs.length - 1 - i) 0 else zs.getD i 0 := by
  simp [swapped, List.getD_eq_getElem?_getD, h]
theorem ext_getD (a b : List Int) (hl : a.length = b.length) (h : ∀ i, i < a.length → a.getD i 0 = b.getD i 0) : a = b := by
  apply List.ext_getElem hl
  intro i h1 h2
  have := h i h1
  simpa [List.getD_eq_getElem?_getD, h1, h2] using this
theorem swapped_zero (zs : List Int) : swapped zs 0 = zs := by
  apply ext_getD _ _ (length_swapped _ _)
  intro i hi
  rw [length_swapped] at hi
  rw [getD_swapped _ _ _ hi, if_neg (by omega)]
theorem swapped_step (zs : List Int) (k : Nat) (h : k < zs.length - 1 - k) :
    ((swapped zs k).set k ((swapped zs k).getD (zs.length - 1 - k) 0)).set (zs.length - 1 - k) ((swapped zs k).getD k 0) = swapped zs (k + 1) := by
  apply ext_getD _ _ (by simp [length_swapped])
  intro i hi
  simp only [List.length_set, length_swapped] at hi
  rw [getD_set _ _ _ _ (by simp [length_swapped]; omega), getD_set _ _ _ _ (by simp [length_swapped]; omega), getD_swapped _ _ _ hi, getD_swapped _ _ _ hi, getD_swapped _ _ _ (by omega), getD_swapped _ _ _ (by omega)]
  by_cases e1 : zs.length - 1 - k = i
  · rw [if_pos e1, if_neg (by omega), if_pos (by omega)]
    congr 1; omega
  · rw [if_neg e1]
    by_cases e2 : k = i
    · rw [if_pos e2, if_neg (by omega), if_pos (by omega)]
      congr 1; omega
    · rw [if_neg e2]
      by_cases e3 : i < k ∨ zs.length ≤ i + k
      · rw [if_pos e3, if_pos (by omega)]
      · rw [if_neg e3, if_neg (by omega)]
theorem swapped_end (zs : List Int) (k : Nat) (h : zs.length - 1 - k ≤ k) : swapped zs k = zs.reverse := by
  apply ext_getD _ _ (by simp [length_swapped])
  intro i hi
  rw [length_swapped] at hi
  have hr : zs.reverse.getD i 0 = zs.getD (zs.length - 1 - i) 0 := by
    rw [List.getD_eq_getElem?_getD, List.getElem?_reverse hi, ← List.getD_eq_getElem?_getD]
  rw [getD_swapped _ _ _ hi, hr]
  by_cases e : i < k ∨ zs.length ≤ i + k
  · rw [if_pos e]
  · rw [if_neg e]; congr 1; omega

end Go.Proofs.Ytchhbcmkhbfpoaa

/- The contracts of package bits' calls on bytes. -/
namespace Go.Proofs.Ytchhbcmkhbfpoaa
open Go.RowKit

theorem setRow_fresh (w : World) (cs cs' : Array Value) (t : TypeId) : (w.alloc (.cells cs t)).setRow w.heap.size cs' = w.alloc (.cells cs' t) := by
  unfold World.setRow World.alloc
  simp only []
  congr 1
  apply Array.ext
  · simp
  · intro i h1 h2
    simp only [Array.getElem_modify, Array.getElem_push]
    by_cases e : i < w.heap.size
    · rw [if_neg (by omega)]; simp [e]
    · have e2 : w.heap.size = i := by simp at h1; omega
      simp [e2]
theorem pad_take (zs : List Int) (n : Nat) : pad zs n = zs.take n ++ List.replicate (n - zs.length) 0 := by
  apply ext_getD
  · simp [length_pad]; omega
  · intro i hi
    rw [length_pad] at hi
    have e1 : (pad zs n).getD i 0 = zs.getD i 0 := by simp [pad, List.getD_eq_getElem?_getD, hi]
    rw [e1]
    simp only [List.getD_eq_getElem?_getD, List.getElem?_append, List.length_take, List.getElem?_take, List.getElem?_replicate]
    by_cases e : i < zs.length
    · rw [if_pos (by omega), if_pos hi]
    · rw [if_neg (by omega), List.getElem?_eq_none (by omega)]
      split <;> rfl

/-- copy of the numbers zs into a new block of n zeros. -/
theorem copy_pad (P : Program) (w : World) (dT sT ty elem t : TypeId) (n cap : Nat) (A : Option Addr) (zs : List Int) (hu : P.underlying dT = some (.slice elem)) (hs : (P.info? elem).map (·.size) = some 1)
    (hr : Rd w w.heap.size .u8 A zs) :
    (Builtin.copy_ #[dT, sT] ty #[.slice (some ⟨w.heap.size, 0, none⟩) n n, .slice A zs.length cap]).run P (w.alloc (.cells (nums .u8 (List.replicate n 0)) t)) =
      .ok (goInt (Nat.min zs.length n)) (w.alloc (.cells (nums .u8 (pad zs n)) t)) := by
  by_cases h0 : Nat.min zs.length n = 0
  · rw [run_copy_none _ dT sT ty elem _ _ _ _ _ _ hu hs h0, h0, pad_take]
    have h0' : min zs.length n = 0 := h0
    have e : zs.take n = [] := List.eq_nil_of_length_eq_zero (by rw [List.length_take]; omega)
    rw [e, List.nil_append]
    rcases Nat.eq_zero_or_pos n with hn | hn
    · subst hn; simp
    · rw [show n - zs.length = n by omega]; rfl
  · have h0' : min zs.length n ≠ 0 := h0
    obtain ⟨b, o, rfl, hb, hc⟩ := hr (by omega)
    have hlen : (zs.take n).length = Nat.min zs.length n := by rw [List.length_take]; exact Nat.min_comm _ _
    have hg : (w.alloc (.cells (nums .u8 (List.replicate n 0)) t)).heap[w.heap.size]? = some (.cells (nums .u8 (List.replicate n 0)) t (0, 0)) := Blk.fresh w t _
    rw [run_copy_row (P := P) _ dT sT ty elem w.heap.size 0 n n ⟨b, o, none⟩ zs.length cap _ t ((zs.take n).map (Value.int .u8)) hu hs hg (by rw [List.length_map]; exact hlen) ?_ ?_ ?_]
    · rw [List.length_map, hlen, setRow_fresh, pad_take]
      congr 4
      simp only [nums, List.take_zero, List.nil_append, Nat.zero_add, List.map_append, List.map_replicate, List.drop_replicate]
      rw [show n - Nat.min zs.length n = n - zs.length by show n - min zs.length n = _; omega]
    · intro j v hj
      rw [List.getElem?_map] at hj
      have hj' : j < (zs.take n).length := by
        rcases Nat.lt_or_ge j (zs.take n).length with h | h
        · exact h
        · rw [List.getElem?_eq_none h] at hj; cases hj
      rw [List.length_take] at hj'
      have hv := hc j (by omega)
      rw [World.cell?_alloc_lt _ _ _ (by simp [Addr.add]; split <;> simpa using hb)]
      rw [List.getElem?_take, if_pos (by omega)] at hj
      have e : zs[j]? = some (zs.getD j 0) := by simp [List.getD_eq_getElem?_getD, show j < zs.length by omega]
      rw [e] at hj
      simp only [Option.map_some, Option.some.injEq] at hj
      subst hj
      rw [← hv]
      congr 1
      unfold Addr.add
      split
      · rename_i h; subst h; rfl
      · rfl
    · simp [nums, List.length_take]; omega
    · intro v hv
      rw [List.mem_map] at hv
      obtain ⟨c, _, rfl⟩ := hv
      rfl

theorem elem_one : (Try.prog.info? 5).map (·.size) = some 1 := by kernel_rfl
theorem zeros4 : nums .u8 (List.replicate 4 0) = #[.int .u8 0, .int .u8 0, .int .u8 0, .int .u8 0] := rfl
theorem zeros8 : nums .u8 (List.replicate 8 0) = #[.int .u8 0, .int .u8 0, .int .u8 0, .int .u8 0, .int .u8 0, .int .u8 0, .int .u8 0, .int .u8 0] := rfl
theorem make4 (w : World) : (Instr.makeSlice 22 (.int .i64 4) (.int .i64 4)).run Try.prog w = .ok (.slice (some ⟨w.heap.size, 0, none⟩) 4 4) (w.alloc (.cells #[.int .u8 0, .int .u8 0, .int .u8 0, .int .u8 0] 5)) := by kernel_rfl
theorem make8 (w : World) : (Instr.makeSlice 22 (.int .i64 8) (.int .i64 8)).run Try.prog w = .ok (.slice (some ⟨w.heap.size, 0, none⟩) 8 8) (w.alloc (.cells #[.int .u8 0, .int .u8 0, .int .u8 0, .int .u8 0, .int .u8 0, .int .u8 0, .int .u8 0, .int .u8 0] 5)) := by kernel_rfl
theorem blk4 (w : World) (t : TypeId) : Blk (w.alloc (.cells #[.int .u8 0, .int .u8 0, .int .u8 0, .int .u8 0] t)) w.heap.size t (nums .u8 (List.replicate 4 0)) := Blk.fresh w t _
theorem blk8 (w : World) (t : TypeId) : Blk (w.alloc (.cells #[.int .u8 0, .int .u8 0, .int .u8 0, .int .u8 0, .int .u8 0, .int .u8 0, .int .u8 0, .int .u8 0] t)) w.heap.size t (nums .u8 (List.replicate 8 0)) := Blk.fresh w t _

end Go.Proofs.Ytchhbcmkhbfpoaa
