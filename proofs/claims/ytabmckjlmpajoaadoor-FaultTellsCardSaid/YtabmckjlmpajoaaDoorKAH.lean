/- Plain numbers: the number of bytes, the greatest one first. -/
import Derived.Laws.BitsAllLaws
import Derived.Laws.Shifts
namespace Go.Proofs.YtabmckjlmpajoaaDoor

/-- The number of the bytes l modulo M. -/
def big (M : Int) (l : List Int) : Int := l.foldl (fun x c => (x * 256 + c) % M) 0
def ByteL (l : List Int) : Prop := ∀ c ∈ l, 0 ≤ c ∧ c < 256
/-- The first n, missing ones 0. -/
def pad (l : List Int) (n : Nat) : List Int := (List.range n).map fun i => l.getD i 0

theorem big_nil (M : Int) : big M [] = 0 := rfl
theorem big_snoc (M : Int) (l : List Int) (c : Int) : big M (l ++ [c]) = (big M l * 256 + c) % M := by simp [big]
theorem big_range (M : Int) (l : List Int) (hM : 0 < M) : 0 ≤ big M l ∧ big M l < M := by
  rcases List.eq_nil_or_concat l with rfl | ⟨a, c, rfl⟩
  · simp [big, hM]
  · rw [List.concat_eq_append, big_snoc]
    exact ⟨Int.emod_nonneg _ (by omega), Int.emod_lt_of_pos _ hM⟩
theorem take_snoc (l : List Int) (k : Nat) (h : k < l.length) : l.take (k + 1) = l.take k ++ [l.getD k 0] := by
  rw [List.take_succ_eq_append_getElem h]; simp [List.getD, h]
theorem big_take (M : Int) (l : List Int) (k : Nat) (h : k < l.length) : big M (l.take (k + 1)) = (big M (l.take k) * 256 + l.getD k 0) % M := by
  rw [take_snoc l k h, big_snoc]
theorem ByteL.get {l : List Int} (h : ByteL l) (k : Nat) : 0 ≤ l.getD k 0 ∧ l.getD k 0 < 256 := by
  by_cases hk : k < l.length
  · have : l.getD k 0 = l[k] := by simp [List.getD, hk]
    rw [this]; exact h _ (List.getElem_mem _)
  · have : l.getD k 0 = 0 := by simp [List.getD, List.getElem?_eq_none (Nat.le_of_not_lt hk)]
    rw [this]; decide
theorem ByteL.pad {l : List Int} (h : ByteL l) (n : Nat) : ByteL (pad l n) := by
  intro c hc
  simp only [Proofs.YtabmckjlmpajoaaDoor.pad, List.mem_map] at hc
  obtain ⟨i, _, rfl⟩ := hc
  exact h.get i
theorem length_pad (l : List Int) (n : Nat) : (pad l n).length = n := by simp [pad]
theorem pad_succ (l : List Int) (n : Nat) : pad l (n + 1) = pad l n ++ [l.getD n 0] := by simp [pad, List.range_succ]
theorem pad_all (l : List Int) : pad l l.length = l := by
  apply List.ext_getElem
  · simp [pad]
  · intro i h1 h2
    simp [pad, List.getD, h2]
theorem big_pad (M : Int) (l : List Int) (n : Nat) : big M (pad l (n + 1)) = (big M (pad l n) * 256 + l.getD n 0) % M := by
  rw [pad_succ, big_snoc]

theorem or_low (x c : Int) (M : Int) (hM : 0 < M) (hd : (256 : Int) ∣ M) (_hx : 0 ≤ x) (hc : 0 ≤ c) (hc' : c < 256) :
    (((x * 256 % M).toNat ||| c.toNat : Nat) : Int) = (x * 256 + c) % M := by
  obtain ⟨m, rfl⟩ := hd
  have hm : 0 < m := by omega
  have e1 : x * 256 % (256 * m) = 256 * (x % m) := by rw [Int.mul_comm x, Int.mul_emod_mul_of_pos _ _ (by decide)]
  have h0 : 0 ≤ x % m := Int.emod_nonneg _ (by omega)
  have h1 : x % m < m := Int.emod_lt_of_pos _ hm
  have e2 : (x * 256 + c) % (256 * m) = 256 * (x % m) + c := by
    have hx' : x * 256 + c = (256 * (x % m) + c) + (256 * m) * (x / m) := by
      have := Int.emod_add_mul_ediv x m
      rw [Int.mul_assoc]
      omega
    rw [hx', Int.add_mul_emod_self_left, Int.emod_eq_of_lt (by omega)]
    omega
  rw [e1, e2]
  obtain ⟨X, hX⟩ := Int.eq_ofNat_of_zero_le h0
  obtain ⟨C, rfl⟩ := Int.eq_ofNat_of_zero_le hc
  rw [hX]
  have hC : C < 2 ^ 8 := by omega
  have e3 : (256 * (X : Int)).toNat = 2 ^ 8 * X := by omega
  rw [e3, Int.toNat_natCast, ← Nat.two_pow_add_eq_or_of_lt hC]
  omega

theorem or_step32 (x c : Int) (hx : 0 ≤ x) (hc : 0 ≤ c ∧ c < 256) : bits BinOp.or IntKind.u32 (x * 256 % 4294967296) c = (x * 256 + c) % 4294967296 := by
  rw [u32_or _ _ (by omega) (by omega) hc.1 (by omega)]
  exact or_low x c _ (by decide) ⟨16777216, by decide⟩ hx hc.1 hc.2
theorem or_step64 (x c : Int) (hx : 0 ≤ x) (hc : 0 ≤ c ∧ c < 256) : bits BinOp.or IntKind.u64 (x * 256 % 18446744073709551616) c = (x * 256 + c) % 18446744073709551616 := by
  rw [u64_or _ _ (by omega) (by omega) hc.1 (by omega)]
  exact or_low x c _ (by decide) ⟨72057594037927936, by decide⟩ hx hc.1 hc.2
theorem mod_step (x c M : Int) : (x * 256 % M + c) % M = (x * 256 + c) % M := by rw [Int.emod_add_emod]
end Go.Proofs.YtabmckjlmpajoaaDoor
