/- Bytes by digits: the plain functions. -/
import Derived.Test.YtabmckjlmpajoaaDoorKAH
import Derived.Test.YtabmckjlmpajoaaDoorKAI
import Derived.Laws.BytesArg
import Derived.Lib.ItoaNum
import Derived.Lib.Bytealg
namespace Go.Proofs.YtabmckjlmpajoaaDoor
open Go.RowKit

/-- The sign of half a byte. -/
def hexd (x : Int) : Int := if x < 10 then 48 + x else 87 + x
/-- Half a byte's value by its sign; -1: no such sign. -/
def hexv (c : Int) : Int := if 48 ≤ c ∧ c ≤ 57 then c - 48 else if 97 ≤ c ∧ c ≤ 102 then c - 87 else -1
def hexL : List Int → List Int
  | [] => []
  | z :: r => hexd (z / 16) :: hexd (z % 16) :: hexL r
theorem hexL_append (a b : List Int) : hexL (a ++ b) = hexL a ++ hexL b := by
  induction a with
  | nil => rfl
  | cons z r ih => simp [hexL, ih]
theorem length_hexL (zs : List Int) : (hexL zs).length = 2 * zs.length := by
  induction zs with
  | nil => rfl
  | cons z r ih => simp [hexL, ih]; omega
theorem hexL_take (zs : List Int) (k : Nat) (h : k < zs.length) : hexL (zs.take (k + 1)) = hexL (zs.take k) ++ [hexd (zs.getD k 0 / 16), hexd (zs.getD k 0 % 16)] := by
  rw [take_snoc zs k h, hexL_append]
  rfl
theorem hexd_range (x : Int) (h0 : 0 ≤ x) (h1 : x < 16) : 48 ≤ hexd x ∧ hexd x ≤ 102 := by
  unfold hexd
  split <;> omega
theorem byte_hexL {zs : List Int} (h : ByteL zs) : ByteL (hexL zs) := by
  induction zs with
  | nil => intro c hc; cases hc
  | cons z r ih =>
    intro c hc
    have hz := h z (by simp)
    have hr := ih (fun c hc => h c (by simp [hc]))
    simp only [hexL, List.mem_cons] at hc
    have h1 := hexd_range (z / 16) (by omega) (by omega)
    have h2 := hexd_range (z % 16) (by omega) (by omega)
    rcases hc with rfl | rfl | hc
    · omega
    · omega
    · exact hr c hc
theorem hexL_at (zs : List Int) : ∀ (i : Nat), i < zs.length → (hexL zs).getD (2 * i) 0 = hexd (zs.getD i 0 / 16) ∧ (hexL zs).getD (2 * i + 1) 0 = hexd (zs.getD i 0 % 16) := by
  induction zs with
  | nil => intro i hi; cases hi
  | cons z r ih =>
    intro i hi
    cases i with
    | zero => exact ⟨rfl, rfl⟩
    | succ i =>
      have := ih i (by simpa using hi)
      rw [show 2 * (i + 1) = 2 * i + 1 + 1 by omega]
      simpa [hexL, List.getD_cons_succ] using this
theorem hexv_hexd (x : Int) (h0 : 0 ≤ x) (h1 : x < 16) : hexv (hexd x) = x := by
  unfold hexv hexd
  split <;> split <;> (try split) <;> omega
theorem hexd_hexv (c : Int) (h : 0 ≤ hexv c) : hexd (hexv c) = c ∧ hexv c < 16 := by
  unfold hexv at *
  unfold hexd
  by_cases h1 : 48 ≤ c ∧ c ≤ 57
  · rw [if_pos h1]; exact ⟨by rw [if_pos (by omega)]; omega, by omega⟩
  · rw [if_neg h1] at h ⊢
    by_cases h2 : 97 ≤ c ∧ c ≤ 102
    · rw [if_pos h2] at h ⊢; exact ⟨by rw [if_neg (by omega)]; omega, by omega⟩
    · rw [if_neg h2] at h; omega

/-- The values of the first j pairs of signs. -/
def hexB (L : List Int) : Nat → List Int
  | 0 => []
  | j + 1 => hexB L j ++ [hexv (L.getD (2 * j) 0) * 16 + hexv (L.getD (2 * j + 1) 0)]
/-- Are the first j pairs digits? -/
def hexG (L : List Int) (j : Nat) : Prop := ∀ i, i < j → 0 ≤ hexv (L.getD (2 * i) 0) ∧ 0 ≤ hexv (L.getD (2 * i + 1) 0)
def hexOk (L : List Int) : Bool := decide (L.length % 2 = 0) && (List.range (L.length / 2)).all fun i => decide (0 ≤ hexv (L.getD (2 * i) 0)) && decide (0 ≤ hexv (L.getD (2 * i + 1) 0))
def hexT (L : List Int) : List Int := if hexOk L = true then hexB L (L.length / 2) else []
theorem hexOk_iff (L : List Int) : hexOk L = true ↔ L.length % 2 = 0 ∧ hexG L (L.length / 2) := by
  simp only [hexOk, hexG, Bool.and_eq_true, decide_eq_true_eq, List.all_eq_true, List.mem_range]
theorem hexOk_odd {L : List Int} (h : L.length % 2 ≠ 0) : hexOk L = false := by
  cases e : hexOk L with
  | false => rfl
  | true => exact absurd ((hexOk_iff L).1 e).1 h
theorem hexOk_bad {L : List Int} {i : Nat} (hi : 2 * i + 1 < L.length) (h : hexv (L.getD (2 * i) 0) < 0 ∨ hexv (L.getD (2 * i + 1) 0) < 0) : hexOk L = false := by
  cases e : hexOk L with
  | false => rfl
  | true =>
    have := ((hexOk_iff L).1 e).2 i (by omega)
    omega
theorem hexT_bad {L : List Int} (h : hexOk L = false) : hexT L = [] := by unfold hexT; rw [if_neg (by rw [h]; exact Bool.false_ne_true)]
theorem hexT_good {L : List Int} (h : hexOk L = true) : hexT L = hexB L (L.length / 2) := by unfold hexT; rw [if_pos h]
theorem hexG_succ {L : List Int} {j : Nat} (h : hexG L j) (h1 : 0 ≤ hexv (L.getD (2 * j) 0)) (h2 : 0 ≤ hexv (L.getD (2 * j + 1) 0)) : hexG L (j + 1) := fun i hi => by
  by_cases e : i < j
  · exact h i e
  · rw [show i = j by omega]; exact ⟨h1, h2⟩
theorem length_hexB (L : List Int) (j : Nat) : (hexB L j).length = j := by
  induction j with
  | zero => rfl
  | succ j ih => simp [hexB, ih]
theorem byte_hexB {L : List Int} : ∀ {j : Nat}, hexG L j → ByteL (hexB L j)
  | 0, _ => fun c hc => by cases hc
  | j + 1, h => fun c hc => by
    rcases List.mem_append.1 hc with hc | hc
    · exact byte_hexB (fun i hi => h i (by omega)) c hc
    · have h1 := h j (by omega)
      have h2 := hexd_hexv _ h1.1
      have h3 := hexd_hexv _ h1.2
      rw [List.mem_singleton] at hc
      omega
theorem byte_hexT (L : List Int) : ByteL (hexT L) := by
  cases e : hexOk L with
  | false => rw [hexT_bad e]; intro c hc; cases hc
  | true => rw [hexT_good e]; exact byte_hexB ((hexOk_iff L).1 e).2
theorem length_hexT (L : List Int) : (hexT L).length ≤ L.length := by
  cases e : hexOk L with
  | false => rw [hexT_bad e]; simp
  | true => rw [hexT_good e, length_hexB]; omega
/-- The digits of what was taken are the text. -/
theorem hexL_hexB {L : List Int} : ∀ {j : Nat}, 2 * j ≤ L.length → hexG L j → hexL (hexB L j) = L.take (2 * j)
  | 0, _, _ => rfl
  | j + 1, hj, h => by
    have h1 := h j (by omega)
    have h2 := hexd_hexv _ h1.1
    have h3 := hexd_hexv _ h1.2
    rw [hexB, hexL_append, hexL_hexB (by omega) (fun i hi => h i (by omega)), show 2 * (j + 1) = 2 * j + 1 + 1 by omega, take_snoc L (2 * j + 1) (by omega), take_snoc L (2 * j) (by omega)]
    generalize hexv (L.getD (2 * j) 0) = a at *
    generalize hexv (L.getD (2 * j + 1) 0) = b at *
    show _ ++ [hexd ((a * 16 + b) / 16), hexd ((a * 16 + b) % 16)] = _
    rw [show (a * 16 + b) / 16 = a by omega, show (a * 16 + b) % 16 = b by omega, h2.1, h3.1, List.append_assoc]
    rfl
theorem hexL_hexT {L : List Int} (h : hexOk L = true) : hexL (hexT L) = L := by
  have h1 := (hexOk_iff L).1 h
  rw [hexT_good h, hexL_hexB (by omega) h1.2, show 2 * (L.length / 2) = L.length by omega, List.take_length]
/-- What was put is taken again. -/
theorem hexG_hexL {zs : List Int} (h : ByteL zs) : hexG (hexL zs) zs.length := fun i hi => by
  have h1 := hexL_at zs i hi
  have h2 := h.get i
  rw [h1.1, h1.2, hexv_hexd _ (by omega) (by omega), hexv_hexd _ (by omega) (by omega)]
  omega
theorem hexB_hexL {zs : List Int} (h : ByteL zs) : ∀ (j : Nat), j ≤ zs.length → hexB (hexL zs) j = zs.take j
  | 0, _ => rfl
  | j + 1, hj => by
    have h1 := hexL_at zs j (by omega)
    have h2 := h.get j
    rw [hexB, hexB_hexL h j (by omega), h1.1, h1.2, hexv_hexd _ (by omega) (by omega), hexv_hexd _ (by omega) (by omega), take_snoc zs j (by omega), show zs.getD j 0 / 16 * 16 + zs.getD j 0 % 16 = zs.getD j 0 by omega]
theorem hexOk_hexL {zs : List Int} (h : ByteL zs) : hexOk (hexL zs) = true := by
  rw [hexOk_iff, length_hexL]
  exact ⟨by omega, by rw [show 2 * zs.length / 2 = zs.length by omega]; exact hexG_hexL h⟩
theorem hexT_hexL {zs : List Int} (h : ByteL zs) : hexT (hexL zs) = zs := by
  rw [hexT_good (hexOk_hexL h), length_hexL, show 2 * zs.length / 2 = zs.length by omega, hexB_hexL h _ (Nat.le_refl _), List.take_length]

/-- A number's decimal digits. -/
def decL (n : Nat) : List Int := (Lib.decDigits n).map fun b => (b.toNat : Int)
/-- The digits, or those of the first ones. -/
def showL (zs : List Int) (most : Int) : List Int := if (zs.length : Int) ≤ most then hexL zs else hexL (zs.take most.toNat) ++ [46, 46] ++ decL zs.length

theorem str_append (a b : List Int) : strOfNums a ++ strOfNums b = strOfNums (a ++ b) := by
  apply ByteArray.ext
  simp [strOfNums]
theorem str_sbytes (s : ByteArray) : strOfNums (sbytes s) = s := by
  apply ByteArray.ext
  simp [strOfNums, sbytes, Function.comp_def]
theorem sbytes_str {zs : List Int} (h : ByteL zs) : sbytes (strOfNums zs) = zs := by
  unfold sbytes
  rw [strOfNums_data, List.map_map]
  conv => rhs; rw [← List.map_id zs]
  apply List.map_congr_left
  intro c hc
  have := h c hc
  simp only [Function.comp, UInt8.toNat_ofNat', id]
  omega
theorem byte_sbytes (s : ByteArray) : ByteL (sbytes s) := fun c hc => by
  unfold sbytes at hc
  rw [List.mem_map] at hc
  obtain ⟨b, _, rfl⟩ := hc
  have := b.toNat_lt
  omega
theorem str_dec (n : Nat) : (⟨(Lib.decDigits n).toArray⟩ : ByteArray) = strOfNums (decL n) := by
  apply ByteArray.ext
  simp [strOfNums, decL, Function.comp_def]

/-- The signs of halves, as the programs have them. -/
def hexDigits : ByteArray := ⟨#[48, 49, 50, 51, 52, 53, 54, 55, 56, 57, 97, 98, 99, 100, 101, 102]⟩
theorem hexDigits_at : ∀ k : Fin 16, sb hexDigits k.val = hexd k.val := by decide +kernel
theorem hexDigits_cut : ∀ k : Fin 16, (hexDigits.extract k.val (k.val + 1)).data.toList = (strOfNums [hexd k.val]).data.toList := by decide +kernel
theorem hexDigits_find : ∀ k : Fin 256, Lib.indexByte hexDigits.data.toList (k.val : Int).toNat.toUInt8 = hexv k.val := by decide +kernel
theorem hex_cut (k : Nat) (h : k < 16) : hexDigits.extract k (k + 1) = strOfNums [hexd k] := by
  have := hexDigits_cut ⟨k, h⟩
  apply ByteArray.ext
  exact Array.toList_inj.1 this
theorem hex_find (c : Int) (h0 : 0 ≤ c) (h1 : c < 256) : Lib.indexByte hexDigits.data.toList c.toNat.toUInt8 = hexv c := by
  have := hexDigits_find ⟨c.toNat, by omega⟩
  rw [show ((c.toNat : Nat) : Int) = c by omega] at this
  exact this
/-- Two texts, one behind the other. -/
theorem run_sadd {P : Program} (a b : List Int) (h : a.length + b.length ≤ 9223372036854775807) (w : World) : (Op.stringOp .add (strOfNums a) (strOfNums b)).run P w = .ok (.string (strOfNums (a ++ b))) w := by
  rw [run_string_add_sum _ _ _ (by rw [strOfNums_size, strOfNums_size]; exact h), str_append]
end Go.Proofs.YtabmckjlmpajoaaDoor
