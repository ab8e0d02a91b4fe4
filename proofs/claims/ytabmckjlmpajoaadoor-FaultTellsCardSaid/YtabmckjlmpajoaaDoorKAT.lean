/- A number's decimal digits by the document; Show, both. -/
import Derived.Test.YtabmckjlmpajoaaDoorKAS
import Derived.Lib.AppendIntMem
import Derived.Lib.SmallJoins
namespace Go.Proofs.YtabmckjlmpajoaaDoor
open Go.RowKit

theorem decL_small {n : Nat} (h : n < 10) : decL n = [48 + (n : Int)] := by
  unfold decL
  rw [Lib.decDigits, dif_pos h]
  simp
  omega
theorem decL_big {n : Nat} (h : ¬ n < 10) : decL n = decL (n / 10) ++ [48 + ((n % 10 : Nat) : Int)] := by
  unfold decL
  rw [Lib.decDigits, dif_neg h]
  simp
  omega
def decP (n : Nat) : List Int := if n < 10 then [] else decL (n / 10)
theorem decL_pre (n : Nat) : decL n = decP n ++ [48 + ((n % 10 : Nat) : Int)] := by
  unfold decP
  by_cases h : n < 10
  · rw [if_pos h, decL_small h, show n % 10 = n by omega]; rfl
  · rw [if_neg h, decL_big h]
theorem decP_big {n : Nat} (h : ¬ n < 10) : decP n = decL (n / 10) := by unfold decP; rw [if_neg h]
theorem decP_small {n : Nat} (h : n < 10) : decP n = [] := by unfold decP; rw [if_pos h]
theorem length_decL : ∀ (n : Nat), (decL n).length ≤ n + 1 := fun n => by
  induction n using Nat.strongRecOn with
  | _ n ih =>
    by_cases h : n < 10
    · rw [decL_small h]; simp
    · have := ih (n / 10) (by omega)
      rw [decL_big h, List.length_append]
      simp
      omega
theorem byte_decL : ∀ (n : Nat), ByteL (decL n) := fun n c hc => by
  unfold decL at hc
  rw [List.mem_map] at hc
  obtain ⟨b, _, rfl⟩ := hc
  have := b.toNat_lt
  omega
def decDigits10 : ByteArray := ⟨#[48, 49, 50, 51, 52, 53, 54, 55, 56, 57]⟩
theorem decDigits_cut : ∀ k : Fin 10, (decDigits10.extract k.val (k.val + 1)).data.toList = (strOfNums [48 + (k.val : Int)]).data.toList := by decide +kernel
theorem run_dec_cut (k : Nat) (h : k < 10) (w : World) : (Instr.slice 9 (.string ⟨#[48, 49, 50, 51, 52, 53, 54, 55, 56, 57]⟩) (some (.int .i64 (k : Int))) (some (.int .i64 ((k : Int) + 1))) none).run Tryd.prog w = .ok (.string (strOfNums [48 + (k : Int)])) w := by
  show (Instr.slice 9 (.string decDigits10) _ _ _).run _ _ = _
  have := decDigits_cut ⟨k, h⟩
  rw [run_slice_string w 9 decDigits10 .i64 .i64 _ _ Tryd.underlying9 (by omega) (by omega) (by rw [show decDigits10.size = 10 by decide +kernel]; omega), show ((k : Int)).toNat = k by omega, show ((k : Int) + 1).toNat = k + 1 by omega,
    show decDigits10.extract k (k + 1) = strOfNums [48 + (k : Int)] from ByteArray.ext (Array.toList_inj.1 this)]

theorem ref_text (n : Nat) (hn : n ≤ 1000000000) (w : World) :
    Calls Tryd.prog 16 #[.int .i64 n] w fun e w' => e = .returned (.string (strOfNums (decL n))) ∧ w' = w := by
  have D1 := run_dec_cut (n % 10) (by omega)
  rw [show ((n % 10 : Nat) : Int) = (n : Int) % 10 by omega] at D1
  go_enter Tryd.func16, Tryd.ntmps16
  go_wp2_with fail
  clear D1
  go_loop [0, 5] (fun a v => ∃ (m : Nat) (t : List Int), m ≤ 1000000000 ∧ a = .int .i64 m ∧ v = .string (strOfNums ((48 + ((m % 10 : Nat) : Int)) :: t)) ∧ decL n = decP m ++ (48 + ((m % 10 : Nat) : Int)) :: t) (fun a _ => (intOf a).toNat)
  case atStart => exact ⟨n, [], hn, rfl, by rw [show ((n % 10 : Nat) : Int) = (n : Int) % 10 by omega], decL_pre n⟩
  case round =>
    obtain ⟨m, t, hm, rfl, rfl, ht⟩ := hrel
    have HT := Lib.hid ht
    clear ht
    by_cases hlt : m < 10
    · have HP := Lib.hid (decP_small hlt)
      go_wp2_with fail
      go_ret
      exact ⟨by rw [HT.out, HP.out]; rfl, rfl⟩
    · have D1 := run_dec_cut (m / 10 % 10) (by omega)
      rw [show ((m / 10 % 10 : Nat) : Int) = (m : Int) / 10 % 10 by omega] at D1
      have hb := length_decL n
      have HLN : ((48 + ((m % 10 : Nat) : Int)) :: t).length ≤ 1000000001 := by
        have := congrArg List.length HT.out
        rw [List.length_append] at this
        omega
      have HD := Lib.hid (decP_big hlt)
      have HE := Lib.hid (decL_pre (m / 10))
      have P1 := run_sadd (P := Tryd.prog) [48 + (m : Int) / 10 % 10] ((48 + ((m % 10 : Nat) : Int)) :: t) (by simp at HLN ⊢; omega)
      have h0 : 0 ≤ (m : Int) / 10 % 10 := by omega
      have h1 : (m : Int) / 10 % 10 < 10 := by omega
      clear HLN hb
      generalize (48 + ((m % 10 : Nat) : Int)) :: t = T at *
      go_wp2_with fail
      go_round
      case rel => exact ⟨m / 10, T, by omega, by go_num, by rw [show ((m / 10 % 10 : Nat) : Int) = (m : Int) / 10 % 10 by omega] <;> rfl, by rw [HT.out, HD.out, HE.out, List.append_assoc]; rfl⟩
      case measure => simp [intOf]; omega

/-- The library's table of powers of ten. -/
def Tab (w : World) : Prop := Lib.TabIs Tryd.prog w "internal/strconv.uint64pow10" .u64 Lib.pow10Tab
theorem gPow : Tryd.prog.globalNamed "internal/strconv.uint64pow10" = some 1 := by kernel_rfl
theorem Tab.on {w w' : World} (h : Tab w) (hb : Below w.heap.size w w') : Tab w' := Go.Joins.tab_stays gPow h hb (Nat.le_refl _)
theorem hex_itoa (n : Nat) (hn : n ≤ 1000000000) (w : World) (ht : Tab w) :
    Calls Tryd.prog 18 #[.int .i64 n] w fun e w' => e = .returned (.string (strOfNums (decL n))) ∧ Below w.heap.size w w' := by
  refine (Tryd.strconv_Itoa n (by omega) (by omega) w ht).mono ?_
  rintro e w' ⟨rfl, k, os, rfl⟩
  refine ⟨?_, Lib.below_grow _ _ (Nat.le_refl _) _ _⟩
  rw [← str_dec]
  unfold Lib.itoa
  rw [if_neg (by omega), show ((n : Int)).toNat = n by omega]
theorem Rd.first {w : World} {B : Nat} {k : IntKind} {A : Option Addr} {zs : List Int} (h : Rd w B k A zs) (m : Nat) : Rd w B k A (zs.take m) := fun hn => by
  rw [List.length_take] at hn
  obtain ⟨b, o, hA, hb, hc⟩ := h (by omega)
  refine ⟨b, o, hA, hb, fun i hi => ?_⟩
  rw [List.length_take] at hi
  rw [hc i (by omega), getD_take _ _ _ (by omega)]
theorem byte_first {l : List Int} (h : ByteL l) (n : Nat) : ByteL (l.take n) := fun c hc => h c (List.mem_of_mem_take hc)

/-- The document's example. -/
theorem awake_show : showL [1, 2, 3] 2 = [48, 49, 48, 50, 46, 46, 51] := by
  have : decL 3 = [51] := decL_small (by decide)
  show hexL [1, 2] ++ [46, 46] ++ decL 3 = _
  rw [this]
  decide
end Go.Proofs.YtabmckjlmpajoaaDoor
