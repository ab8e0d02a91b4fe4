/- Numbers' digits, also of those below 0. -/
import Derived.Test.YtabmckjlmpajoaaDoorKAT
import Derived.Lib.ItoaLen
namespace Go.Proofs.YtabmckjlmpajoaaDoor
open Go.RowKit

/-- A number's digits, as a text. -/
def ita (n : Int) : ByteArray := ⟨(Lib.itoa n).toArray⟩
theorem decL_len (n : Nat) (h : n < 18446744073709551616) : (decL n).length ≤ 20 := by
  unfold decL
  rw [List.length_map, Lib.decDigits_length]
  exact Lib.nDigits_le20 n h
def itL (n : Int) : List Int := if n < 0 then 45 :: decL n.natAbs else decL n.toNat
theorem ita_eq (n : Int) : ita n = strOfNums (itL n) := by
  unfold ita itL Lib.itoa
  by_cases h : n < 0
  · rw [if_pos h, if_pos h]
    have := str_dec n.natAbs
    apply ByteArray.ext
    have h2 := congrArg (fun b : ByteArray => b.data.toList) this
    apply Array.toList_inj.1
    simp [strOfNums, decL, Function.comp_def] at h2 ⊢
  · rw [if_neg h, if_neg h]
    exact str_dec n.toNat
theorem ita_size (n : Int) (h0 : -9223372036854775808 ≤ n) (h1 : n ≤ 9223372036854775807) : (ita n).size ≤ 21 := by
  rw [ita_eq, strOfNums_size]
  unfold itL
  split
  · have := decL_len n.natAbs (by omega)
    simp
    omega
  · have := decL_len n.toNat (by omega)
    omega
theorem lib_itoa (n : Int) (h0 : -9223372036854775808 ≤ n) (h1 : n ≤ 9223372036854775807) (w : World) (ht : Tab w) :
    Calls Tryd.prog 18 #[.int .i64 n] w fun e w' => e = .returned (.string (ita n)) ∧ Below w.heap.size w w' := by
  refine (Tryd.strconv_Itoa n h0 h1 w ht).mono ?_
  rintro e w' ⟨rfl, k, os, rfl⟩
  exact ⟨rfl, Lib.below_grow _ _ (Nat.le_refl _) _ _⟩

def decZ (n : Nat) : List Int := if n = 0 then [] else decL n
theorem decZ_pre {n : Nat} (h : n ≠ 0) : decZ n = decZ (n / 10) ++ [48 + ((n % 10 : Nat) : Int)] := by
  unfold decZ
  rw [if_neg h, decL_pre]
  unfold decP
  by_cases h2 : n < 10
  · rw [if_pos h2, if_pos (by omega)]
  · rw [if_neg h2, if_neg (by omega)]
theorem decZ_pos {n : Nat} (h : n ≠ 0) : decZ n = decL n := by unfold decZ; rw [if_neg h]

theorem ref_textP (n : Nat) (hn : n ≤ 9223372036854775807) (w : World) :
    Calls Tryd.prog 16 #[.int .i64 n] w fun e w' => e = .returned (.string (strOfNums (decL n))) ∧ w' = w := by
  have D1 := run_dec_cut (n % 10) (by omega)
  rw [show ((n % 10 : Nat) : Int) = (n : Int) % 10 by omega] at D1
  go_enter Tryd.func16, Tryd.ntmps16
  go_wp2_with fail
  clear D1
  go_loop [0, 5] (fun a v => ∃ (m : Nat) (t : List Int), m ≤ 9223372036854775807 ∧ a = .int .i64 m ∧ v = .string (strOfNums ((48 + ((m % 10 : Nat) : Int)) :: t)) ∧ decL n = decP m ++ (48 + ((m % 10 : Nat) : Int)) :: t) (fun a _ => (intOf a).toNat)
  case atStart => exact ⟨n, [], hn, rfl, by rw [show ((n % 10 : Nat) : Int) = (n : Int) % 10 by omega], decL_pre n⟩
  case round =>
    obtain ⟨m, t, hm, rfl, rfl, ht⟩ := hrel
    have HT := Lib.hid ht
    clear ht
    by_cases hlt : m < 10
    · have HP := Lib.hid (decP_small hlt)
      go_wp2_with fail
      go_ret
      exact ⟨by rw [HT.out, HP.out]; rfl, rfl⟩
    · have D1 := run_dec_cut (m / 10 % 10) (by omega)
      rw [show ((m / 10 % 10 : Nat) : Int) = (m : Int) / 10 % 10 by omega] at D1
      have hb := decL_len n (by omega)
      have HLN : ((48 + ((m % 10 : Nat) : Int)) :: t).length ≤ 20 := by
        have := congrArg List.length HT.out
        rw [List.length_append] at this
        omega
      have HD := Lib.hid (decP_big hlt)
      have HE := Lib.hid (decL_pre (m / 10))
      have P1 := run_sadd (P := Tryd.prog) [48 + (m : Int) / 10 % 10] ((48 + ((m % 10 : Nat) : Int)) :: t) (by simp at HLN ⊢; omega)
      have h0 : 0 ≤ (m : Int) / 10 % 10 := by omega
      have h1 : (m : Int) / 10 % 10 < 10 := by omega
      clear HLN hb
      generalize (48 + ((m % 10 : Nat) : Int)) :: t = T at *
      go_wp2_with fail
      go_round
      case rel => exact ⟨m / 10, T, by omega, by go_num, by rw [show ((m / 10 % 10 : Nat) : Int) = (m : Int) / 10 % 10 by omega] <;> rfl, by rw [HT.out, HD.out, HE.out, List.append_assoc]; rfl⟩
      case measure => simp [intOf]; omega

theorem ref_textM (n : Nat) (h0 : n ≠ 0) (hn : n ≤ 9223372036854775808) (w : World) :
    Calls Tryd.prog 16 #[.int .i64 (-(n : Int))] w fun e w' => e = .returned (.string (strOfNums (45 :: decL n))) ∧ w' = w := by
  have hneg : -(n : Int) < 0 := by omega
  go_enter Tryd.func16, Tryd.ntmps16
  go_wp2_with fail
  clear hneg
  go_loop [0, 3] (fun a v => ∃ (m : Nat) (t : List Int), m ≤ 9223372036854775808 ∧ a = .int .i64 (-(m : Int)) ∧ v = .string (strOfNums t) ∧ decZ n = decZ m ++ t) (fun a _ => (-(intOf a)).toNat)
  case atStart => exact ⟨n, [], hn, rfl, rfl, by simp⟩
  case round =>
    obtain ⟨m, t, hm, rfl, rfl, ht⟩ := hrel
    have HT := Lib.hid ht
    clear ht
    have hb := decL_len n (by omega)
    have HLN : t.length ≤ 20 := by
      have := congrArg List.length HT.out
      rw [List.length_append, decZ_pos h0] at this
      omega
    by_cases hz : m = 0
    · subst hz
      have P1 := run_sadd (P := Tryd.prog) [45] t (by simp; omega)
      rw [show strOfNums [45] = ⟨#[45]⟩ from rfl] at P1
      have HZ := Lib.hid h0
      clear h0 HLN hb
      go_wp2_with fail
      go_ret
      exact ⟨by rw [← decZ_pos HZ.out, HT.out]; rfl, rfl⟩
    · have hneg : -(m : Int) < 0 := by omega
      have D1 := run_dec_cut (m % 10) (by omega)
      rw [show ((m % 10 : Nat) : Int) = (m : Int) % 10 by omega] at D1
      have P1 := run_sadd (P := Tryd.prog) [48 + (m : Int) % 10] t (by simp; omega)
      have HD := Lib.hid (decZ_pre hz)
      have h1 : 0 ≤ (m : Int) % 10 := by omega
      have h2 : (m : Int) % 10 < 10 := by omega
      have g1 : (-(m : Int)).tmod 10 = -((m : Int) % 10) := by rw [Int.neg_tmod, Int.tmod_eq_emod_of_nonneg (by omega)]
      have g2 : (-(m : Int)).tdiv 10 = -((m : Int) / 10) := by rw [Int.neg_tdiv, Int.tdiv_eq_ediv_of_nonneg (by omega)]
      clear HLN hb
      go_wp2_with fail
      go_round
      case rel => exact ⟨m / 10, (48 + (m : Int) % 10) :: t, by omega, by rw [show ((m / 10 : Nat) : Int) = (m : Int) / 10 by omega], rfl, by rw [HT.out, HD.out, List.append_assoc, show ((m % 10 : Nat) : Int) = (m : Int) % 10 by omega]; rfl⟩
      case measure => simp [intOf]; omega

/-- The document's digits of any number. -/
theorem ref_text_all (n : Int) (h0 : -9223372036854775808 ≤ n) (h1 : n ≤ 9223372036854775807) (w : World) :
    Calls Tryd.prog 16 #[.int .i64 n] w fun e w' => e = .returned (.string (ita n)) ∧ w' = w := by
  rw [ita_eq]
  unfold itL
  by_cases h : n < 0
  · rw [if_pos h]
    have := ref_textM n.natAbs (by omega) (by omega) w
    rwa [show -(n.natAbs : Int) = n by omega] at this
  · rw [if_neg h]
    have := ref_textP n.toNat (by omega) w
    rwa [show (n.toNat : Int) = n by omega] at this

/-! ### The texts of errors -/
/-- A number's own text. -/
def numT (e : Int) : ByteArray := ⟨#[117, 108, 108, 97, 103, 101, 58, 32, 101, 114, 114, 111, 114, 32]⟩ ++ ita e
/-- A fault's. -/
def fltT (e a : Int) : ByteArray := ⟨#[97, 116, 32]⟩ ++ ita a ++ ⟨#[58, 32]⟩ ++ numT e
def colon : ByteArray := ⟨#[58, 32]⟩
/-- .. with texts ahead of it, the last one first. -/
def chnT (e a : Int) : List ByteArray → ByteArray
  | [] => fltT e a
  | s :: r => s ++ colon ++ chnT e a r
def I64 (n : Int) : Prop := -9223372036854775808 ≤ n ∧ n ≤ 9223372036854775807
theorem numT_size {e : Int} (h : I64 e) : (numT e).size ≤ 35 := by
  have := ita_size e h.1 h.2
  unfold numT
  rw [ByteArray.size_append]
  show 14 + _ ≤ _
  omega
theorem fltT_size {e a : Int} (h : I64 e) (h2 : I64 a) : (fltT e a).size ≤ 61 := by
  have := ita_size a h2.1 h2.2
  have := numT_size h
  unfold fltT
  rw [ByteArray.size_append, ByteArray.size_append, ByteArray.size_append]
  show 3 + _ + 2 + _ ≤ _
  omega
theorem chnT_size {e a : Int} (h : I64 e) (h2 : I64 a) : ∀ {l : List ByteArray}, (∀ s ∈ l, s.size ≤ 100) → (chnT e a l).size ≤ 61 + 102 * l.length
  | [], _ => fltT_size h h2
  | s :: r, hs => by
    have h3 := chnT_size h h2 (l := r) fun s hs' => hs s (List.mem_cons_of_mem _ hs')
    have h4 := hs s List.mem_cons_self
    unfold chnT
    rw [ByteArray.size_append, ByteArray.size_append, List.length_cons]
    show _ + 2 + _ ≤ _
    omega

theorem num_text (e : Int) (h : I64 e) (w : World) (ht : Tab w) :
    Calls Tryd.prog 17 #[.int .i64 e] w fun ev w' => ev = .returned (.string (numT e)) ∧ Below w.heap.size w w' := by
  have K := Lib.hid (lib_itoa e h.1 h.2 w ht)
  have hs := ita_size e h.1 h.2
  have P1 := run_string_add_sum (P := Tryd.prog) (w := w) ⟨#[117, 108, 108, 97, 103, 101, 58, 32, 101, 114, 114, 111, 114, 32]⟩ (ita e) (by show 14 + _ ≤ _; omega)
  clear hs
  have P1 : ∀ w, (Op.stringOp .add ⟨#[117, 108, 108, 97, 103, 101, 58, 32, 101, 114, 114, 111, 114, 32]⟩ (ita e)).run Tryd.prog w = .ok (.string (numT e)) w := fun w => run_string_add_sum (P := Tryd.prog) (w := w) _ _ (by have := ita_size e h.1 h.2; show 14 + _ ≤ _; omega)
  go_enter Tryd.func17, Tryd.ntmps17
  go_wp2_with (go_at_call 18; refine K.out.mono ?_; rintro ev w' ⟨rfl, hb⟩)
  go_ret
  exact ⟨rfl, hb⟩
end Go.Proofs.YtabmckjlmpajoaaDoor
