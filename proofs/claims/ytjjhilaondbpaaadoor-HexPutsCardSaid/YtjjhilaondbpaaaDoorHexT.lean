
/- A number's decimal digits by the document; Show, both. -/
import Derived.Test.YtjjhilaondbpaaaDoorHexR
import Derived.Lib.AppendIntMem
import Derived.Lib.SmallJoins
namespace Go.Proofs.YtjjhilaondbpaaaDoor
open Go.RowKit

theorem decL_small {n : Nat} (h : n < 10) : decL n = [48 + (n : Int)] := by
  unfold decL
  rw [Lib.decDigits, dif_pos h]
  simp
  omega
theorem decL_big {n : Nat} (h : ¬ n < 10) : decL n = decL (n / 10) ++ [48 + ((n % 10 : Nat) : Int)] := by
  unfold decL
  rw [Lib.decDigits, dif_neg h]
  simp
  omega
def decP (n : Nat) : List Int := if n < 10 then [] else decL (n / 10)
theorem decL_pre (n : Nat) : decL n = decP n ++ [48 + ((n % 10 : Nat) : Int)] := by
  unfold decP
  by_cases h : n < 10
  · rw [if_pos h, decL_small h, show n % 10 = n by omega]; rfl
  · rw [if_neg h, decL_big h]
theorem decP_big {n : Nat} (h : ¬ n < 10) : decP n = decL (n / 10) := by unfold decP; rw [if_neg h]
theorem decP_small {n : Nat} (h : n < 10) : decP n = [] := by unfold decP; rw [if_pos h]
theorem length_decL : ∀ (n : Nat), (decL n).length ≤ n + 1 := fun n => by
  induction n using Nat.strongRecOn with
  | _ n ih =>
    by_cases h : n < 10
    · rw [decL_small h]; simp
    · have := ih (n / 10) (by omega)
      rw [decL_big h, List.length_append]
      simp
      omega
theorem byte_decL : ∀ (n : Nat), ByteL (decL n) := fun n c hc => by
  unfold decL at hc
  rw [List.mem_map] at hc
  obtain ⟨b, _, rfl⟩ := hc
  have := b.toNat_lt
  omega
def decDigits10 : ByteArray := ⟨#[48, 49, 50, 51, 52, 53, 54, 55, 56, 57]⟩
theorem decDigits_cut : ∀ k : Fin 10, (decDigits10.extract k.val (k.val + 1)).data.toList = (strOfNums [48 + (k.val : Int)]).data.toList := by decide +kernel
theorem run_dec_cut (k : Nat) (h : k < 10) (w : World) : (Instr.slice 9 (.string ⟨#[48, 49, 50, 51, 52, 53, 54, 55, 56, 57]⟩) (some (.int .i64 (k : Int))) (some (.int .i64 ((k : Int) + 1))) none).run Tryd.prog w = .ok (.string (strOfNums [48 + (k : Int)])) w := by
  show (Instr.slice 9 (.string decDigits10) _ _ _).run _ _ = _
  have := decDigits_cut ⟨k, h⟩
  rw [run_slice_string w 9 decDigits10 .i64 .i64 _ _ Tryd.underlying9 (by omega) (by omega) (by rw [show decDigits10.size = 10 by decide +kernel]; omega), show ((k : Int)).toNat = k by omega, show ((k : Int) + 1).toNat = k + 1 by omega,
    show decDigits10.extract k (k + 1) = strOfNums [48 + (k : Int)] from ByteArray.ext (Array.toList_inj.1 this)]

theorem ref_text (n : Nat) (hn : n ≤ 1000000000) (w : World) :
    Calls Tryd.prog 16 #[.int .i64 n] w fun e w' => e = .returned (.string (strOfNums (decL n))) ∧ w' = w := by
  have D1 := run_dec_cut (n % 10) (by omega)
  rw [show ((n % 10 : Nat) : Int) = (n : Int) % 10 by omega] at D1
  go_enter Tryd.func16, Tryd.ntmps16
  go_wp2_with fail
  clear D1
  go_loop [0, 5] (fun a v => ∃ (m : Nat) (t : List Int), m ≤ 1000000000 ∧ a = .int .i64 m ∧ v = .string (strOfNums ((48 + ((m % 10 : Nat) : Int)) :: t)) ∧ decL n = decP m ++ (48 + ((m % 10 : Nat) : Int)) :: t) (fun a _ => (intOf a).toNat)
  case atStart => exact ⟨n, [], hn, rfl, by rw [show ((n % 10 : Nat) : Int) = (n : Int) % 10 by omega], decL_pre n⟩
  case round =>
    obtain ⟨m, t, hm, rfl, rfl, ht⟩ := hrel
    have HT := Lib.hid ht
    clear ht
    by_cases hlt : m < 10
    · have HP := Lib.hid (decP_small hlt)
      go_wp2_with fail
      go_ret
      exact ⟨by rw [HT.out, HP.out]; rfl, rfl⟩
    · have D1 := run_dec_cut (m / 10 % 10) (by omega)
      rw [show ((m / 10 % 10 : Nat) : Int) = (m : Int) / 10 % 10 by omega] at D1
      have hb := length_decL n
      have HLN : ((48 + ((m % 10 : Nat) : Int)) :: t).length ≤ 1000000001 := by
        have := congrArg List.length HT.out
        rw [List.length_append] at this
        omega
      have HD := Lib.hid (decP_big hlt)
      have HE := Lib.hid (decL_pre (m / 10))
      have P1 := run_sadd (P := Tryd.prog) [48 + (m : Int) / 10 % 10] ((48 + ((m % 10 : Nat) : Int)) :: t) (by simp at HLN ⊢; omega)
      have h0 : 0 ≤ (m : Int) / 10 % 10 := by omega
      have h1 : (m : Int) / 10 % 10 < 10 := by omega
      clear HLN hb
      generalize (48 + ((m % 10 : Nat) : Int)) :: t = T at *
      go_wp2_with fail
      go_round
      case rel => exact ⟨m / 10, T, by omega, by go_num, by rw [show ((m / 10 % 10 : Nat) : Int) = (m : Int) / 10 % 10 by omega] <;> rfl, by rw [HT.out, HD.out, HE.out, List.append_assoc]; rfl⟩
      case measure => simp [intOf]; omega

/-- The library's table of powers of ten. -/
def Tab (w : World) : Prop := Lib.TabIs Tryd.prog w "internal/strconv.uint64pow10" .u64 Lib.pow10Tab
theorem gPow : Tryd.prog.globalNamed "internal/strconv.uint64pow10" = some 1 := by kernel_rfl
theorem Tab.on {w w' : World} (h : Tab w) (hb : Below w.heap.size w w') : Tab w' := Go.Joins.tab_stays gPow h hb (Nat.le_refl _)
theorem hex_itoa (n : Nat) (hn : n ≤ 1000000000) (w : World) (ht : Tab w) :
    Calls Tryd.prog 15 #[.int .i64 n] w fun e w' => e = .returned (.string (strOfNums (decL n))) ∧ Below w.heap.size w w' := by
  refine (Tryd.strconv_Itoa n (by omega) (by omega) w ht).mono ?_
  rintro e w' ⟨rfl, k, os, rfl⟩
  refine ⟨?_, Lib.below_grow _ _ (Nat.le_refl _) _ _⟩
  rw [← str_dec]
  unfold Lib.itoa
  rw [if_neg (by omega), show ((n : Int)).toNat = n by omega]
theorem Rd.first {w : World} {B : Nat} {k : IntKind} {A : Option Addr} {zs : List Int} (h : Rd w B k A zs) (m : Nat) : Rd w B k A (zs.take m) := fun hn => by
  rw [List.length_take] at hn
  obtain ⟨b, o, hA, hb, hc⟩ := h (by omega)
  refine ⟨b, o, hA, hb, fun i hi => ?_⟩
  rw [List.length_take] at hi
  rw [hc i (by omega), getD_take _ _ _ (by omega)]
theorem byte_first {l : List Int} (h : ByteL l) (n : Nat) : ByteL (l.take n) := fun c hc => h c (List.mem_of_mem_take hc)

theorem hex_show (w : World) (A : Option Addr) (cap : Nat) (zs : List Int) (most : Int) (hb : ByteL zs) (hr : Rd w w.heap.size .u8 A zs) (hl : zs.length ≤ 1000000) (hc : zs.length ≤ cap) (ht : Tab w) :
    Calls Tryd.prog 9 #[.slice A zs.length cap, .int .i64 most] w fun e w' => e = .returned (.string (strOfNums (showL zs most))) ∧ Below w.heap.size w w' := by
  have HS : Hid (showL zs most = if (zs.length : Int) ≤ most then hexL zs else hexL (zs.take most.toNat) ++ [46, 46] ++ decL zs.length) := rfl
  by_cases h : (zs.length : Int) ≤ most
  · have HP := Lib.hid (hex_put w A cap zs hb hr (by omega))
    have HE : Hid (showL zs most = hexL zs) := by unfold Hid; rw [HS.out, if_pos h]
    clear hr ht hb HS
    go_enter Tryd.func9, Tryd.ntmps9
    go_wp2_with (go_at_call 7; with_reducible refine HP.out.mono ?_; rintro e w' ⟨rfl, S⟩)
    go_ret
    exact ⟨by rw [HE.out]; rfl, S⟩
  · have HE : Hid (showL zs most = hexL (zs.take most.toNat) ++ [46, 46] ++ decL zs.length) := by unfold Hid; rw [HS.out, if_neg h]
    obtain ⟨k, hk, hkl⟩ : ∃ k, most.toNat = k ∧ k ≤ zs.length := ⟨most.toNat, rfl, by omega⟩
    have HP := Lib.hid (hex_put w A cap (zs.take k) (byte_first hb k) (hr.first k) (by rw [List.length_take]; omega))
    have hlt : (zs.take k).length = k := by rw [List.length_take]; omega
    have hH : (hexL (zs.take k)).length ≤ 2000000 := by rw [length_hexL, hlt]; omega
    have hD := length_decL zs.length
    have HI := Lib.hid (fun w ht => hex_itoa zs.length (by omega) w ht)
    have HT := Lib.hid ht
    rw [hlt] at HP
    rw [hk] at HE
    have P1 := run_sadd (P := Tryd.prog) (hexL (zs.take k)) [46, 46] (by simp; omega)
    have P2 := run_sadd (P := Tryd.prog) (hexL (zs.take k) ++ [46, 46]) (decL zs.length) (by simp; omega)
    rw [← HE.out] at P2
    rw [show strOfNums [46, 46] = ⟨#[46, 46]⟩ from rfl] at P1
    clear hr ht hb HS hH hD HE hlt
    generalize hexL (zs.take k) = H at *
    generalize decL zs.length = D at *
    generalize showL zs most = X at *
    have HM : max most 0 = (k : Int) := by omega
    have hkc : k ≤ cap := by omega
    go_enter Tryd.func9, Tryd.ntmps9
    go_wp2_with (first
      | (go_at_call 7; with_reducible refine HP.out.mono ?_; rintro e w' ⟨rfl, S⟩; have T := HT.out.on S)
      | (go_at_call 15; with_reducible refine (HI.out _ T).mono ?_; rintro e w'' ⟨rfl, S2⟩))
    go_ret
    exact ⟨rfl, S.trans (S2.mono S.size)⟩

theorem ref_show (w : World) (A : Option Addr) (cap : Nat) (zs : List Int) (most : Int) (hb : ByteL zs) (hr : Rd w w.heap.size .u8 A zs) (hl : zs.length ≤ 1000000) (hc : zs.length ≤ cap) :
    Calls Tryd.prog 10 #[.slice A zs.length cap, .int .i64 most] w fun e w' => e = .returned (.string (strOfNums (showL zs most))) ∧ Below w.heap.size w w' := by
  have HS : Hid (showL zs most = if (zs.length : Int) ≤ most then hexL zs else hexL (zs.take most.toNat) ++ [46, 46] ++ decL zs.length) := rfl
  by_cases h : (zs.length : Int) ≤ most
  · have HP := Lib.hid (ref_put w A cap zs hb hr (by omega))
    have HE : Hid (showL zs most = hexL zs) := by unfold Hid; rw [HS.out, if_pos h]
    clear hr hb HS
    go_enter Tryd.func10, Tryd.ntmps10
    go_wp2_with (go_at_call 8; with_reducible refine HP.out.mono ?_; rintro e w' ⟨rfl, S⟩)
    go_ret
    exact ⟨by rw [HE.out]; rfl, S⟩
  · have HE : Hid (showL zs most = hexL (zs.take most.toNat) ++ [46, 46] ++ decL zs.length) := by unfold Hid; rw [HS.out, if_neg h]
    obtain ⟨k, hk, hkl⟩ : ∃ k, most.toNat = k ∧ k ≤ zs.length := ⟨most.toNat, rfl, by omega⟩
    have HP := Lib.hid (ref_put w A cap (zs.take k) (byte_first hb k) (hr.first k) (by rw [List.length_take]; omega))
    have hlt : (zs.take k).length = k := by rw [List.length_take]; omega
    have hH : (hexL (zs.take k)).length ≤ 2000000 := by rw [length_hexL, hlt]; omega
    have hD := length_decL zs.length
    have HI := Lib.hid (fun w => ref_text zs.length (by omega) w)
    rw [hlt] at HP
    rw [hk] at HE
    have P1 := run_sadd (P := Tryd.prog) (hexL (zs.take k)) [46, 46] (by simp; omega)
    have P2 := run_sadd (P := Tryd.prog) (hexL (zs.take k) ++ [46, 46]) (decL zs.length) (by simp; omega)
    rw [← HE.out] at P2
    rw [show strOfNums [46, 46] = ⟨#[46, 46]⟩ from rfl] at P1
    clear hr hb HS hH hD HE hlt
    generalize hexL (zs.take k) = H at *
    generalize decL zs.length = D at *
    generalize showL zs most = X at *
    have hkc : k ≤ cap := by omega
    by_cases hm : most < 0
    · have hk0 : k = 0 := by omega
      subst hk0
      go_enter Tryd.func10, Tryd.ntmps10
      go_wp2_with (first
        | (go_at_call 8; with_reducible refine HP.out.mono ?_; rintro e w' ⟨rfl, S⟩)
        | (go_at_call 16; with_reducible refine (HI.out _).mono ?_; rintro e w'' ⟨rfl, rfl⟩))
      go_ret
      exact ⟨rfl, S⟩
    · obtain rfl : most = (k : Int) := by omega
      go_enter Tryd.func10, Tryd.ntmps10
      go_wp2_with (first
        | (go_at_call 8; with_reducible refine HP.out.mono ?_; rintro e w' ⟨rfl, S⟩)
        | (go_at_call 16; with_reducible refine (HI.out _).mono ?_; rintro e w'' ⟨rfl, rfl⟩))
      go_ret
      exact ⟨rfl, S⟩

/-- The document's example. -/
theorem awake_show : showL [1, 2, 3] 2 = [48, 49, 48, 50, 46, 46, 51] := by
  have : decL 3 = [51] := decL_small (by decide)
  show hexL [1, 2] ++ [46, 46] ++ decL 3 = _
  rw [this]
  decide
theorem hex_awake (w : World) (ht : Tab w) : Calls Tryd.prog 5 #[] w fun e w' => e = .returned (.bool true) ∧ Below w.heap.size w w' := by
  have b0 : Blk (w.alloc (.cells #[.int .u8 1, .int .u8 2, .int .u8 3] 5)) w.heap.size 5 (nums .u8 [1, 2, 3]) := Blk.fresh _ _ _
  have HS := Lib.hid (hex_show (w.alloc (.cells #[.int .u8 1, .int .u8 2, .int .u8 3] 5)) (some ⟨w.heap.size, 0, none⟩) 3 [1, 2, 3] 2 (by intro c hc; simp at hc; omega) b0.rd (by decide) (by decide) (ht.on (below_alloc _ _)))
  rw [awake_show, show strOfNums [48, 49, 48, 50, 46, 46, 51] = ⟨#[48, 49, 48, 50, 46, 46, 51]⟩ from rfl, show ([1, 2, 3] : List Int).length = 3 from rfl] at HS
  clear b0
  go_enter Tryd.func5, Tryd.ntmps5
  go_wp2_with (go_at_call 9; with_reducible refine HS.out.mono ?_; rintro e w' ⟨rfl, S⟩)
  go_ret
  exact ⟨rfl, (below_alloc _ _).trans (S.mono (by simp))⟩
end Go.Proofs.YtjjhilaondbpaaaDoor
