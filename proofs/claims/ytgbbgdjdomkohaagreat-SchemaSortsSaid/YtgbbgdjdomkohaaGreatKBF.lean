/- Bytes by digits: the plain functions. -/
import Derived.Test.YtgbbgdjdomkohaaGreatKAH
import Derived.Test.YtgbbgdjdomkohaaGreatKAV
import Derived.Laws.BytesArg
import Derived.Lib.ItoaNum
import Derived.Lib.Bytealg
import Derived.Test.YtgbbgdjdomkohaaGreatRows
import Derived.Test.YtgbbgdjdomkohaaGreatKAB
import Derived.Test.YtgbbgdjdomkohaaGreatKAW
import Derived.Deep.LoopGhost
import Derived.Deep.RegionLaw
import Derived.Test.YtgbbgdjdomkohaaGreatKBE
import Derived.Test.YtgbbgdjdomkohaaGreatKAX
import Derived.Test.YtgbbgdjdomkohaaGreatKAK
import Derived.Test.YtgbbgdjdomkohaaGreatKAM
namespace Go.Proofs.YtgbbgdjdomkohaaGreat
open Go.RowKit

/-- The sign of half a byte. -/
def hexd (x : Int) : Int := if x < 10 then 48 + x else 87 + x
/-- Half a byte's value by its sign; -1: no such sign. -/
def hexv (c : Int) : Int := if 48 ≤ c ∧ c ≤ 57 then c - 48 else if 97 ≤ c ∧ c ≤ 102 then c - 87 else -1
def hexL : List Int → List Int
  | [] => []
  | z :: r => hexd (z / 16) :: hexd (z % 16) :: hexL r
theorem hexL_append (a b : List Int) : hexL (a ++ b) = hexL a ++ hexL b := by
  induction a with
  | nil => rfl
  | cons z r ih => simp [hexL, ih]
theorem length_hexL (zs : List Int) : (hexL zs).length = 2 * zs.length := by
  induction zs with
  | nil => rfl
  | cons z r ih => simp [hexL, ih]; omega
theorem hexL_take (zs : List Int) (k : Nat) (h : k < zs.length) : hexL (zs.take (k + 1)) = hexL (zs.take k) ++ [hexd (zs.getD k 0 / 16), hexd (zs.getD k 0 % 16)] := by
  rw [take_snoc zs k h, hexL_append]
  rfl
theorem hexd_range (x : Int) (h0 : 0 ≤ x) (h1 : x < 16) : 48 ≤ hexd x ∧ hexd x ≤ 102 := by
  unfold hexd
  split <;> omega
theorem byte_hexL {zs : List Int} (h : ByteL zs) : ByteL (hexL zs) := by
  induction zs with
  | nil => intro c hc; cases hc
  | cons z r ih =>
    intro c hc
    have hz := h z (by simp)
    have hr := ih (fun c hc => h c (by simp [hc]))
    simp only [hexL, List.mem_cons] at hc
    have h1 := hexd_range (z / 16) (by omega) (by omega)
    have h2 := hexd_range (z % 16) (by omega) (by omega)
    rcases hc with rfl | rfl | hc
    · omega
    · omega
    · exact hr c hc
theorem hexL_at (zs : List Int) : ∀ (i : Nat), i < zs.length → (hexL zs).getD (2 * i) 0 = hexd (zs.getD i 0 / 16) ∧ (hexL zs).getD (2 * i + 1) 0 = hexd (zs.getD i 0 % 16) := by
  induction zs with
  | nil => intro i hi; cases hi
  | cons z r ih =>
    intro i hi
    cases i with
    | zero => exact ⟨rfl, rfl⟩
    | succ i =>
      have := ih i (by simpa using hi)
      rw [show 2 * (i + 1) = 2 * i + 1 + 1 by omega]
      simpa [hexL, List.getD_cons_succ] using this
theorem hexv_hexd (x : Int) (h0 : 0 ≤ x) (h1 : x < 16) : hexv (hexd x) = x := by
  unfold hexv hexd
  split <;> split <;> (try split) <;> omega
theorem hexd_hexv (c : Int) (h : 0 ≤ hexv c) : hexd (hexv c) = c ∧ hexv c < 16 := by
  unfold hexv at *
  unfold hexd
  by_cases h1 : 48 ≤ c ∧ c ≤ 57
  · rw [if_pos h1]; exact ⟨by rw [if_pos (by omega)]; omega, by omega⟩
  · rw [if_neg h1] at h ⊢
    by_cases h2 : 97 ≤ c ∧ c ≤ 102
    · rw [if_pos h2] at h ⊢; exact ⟨by rw [if_neg (by omega)]; omega, by omega⟩
    · rw [if_neg h2] at h; omega

/-- The values of the first j pairs of signs. -/
def hexB (L : List Int) : Nat → List Int
  | 0 => []
  | j + 1 => hexB L j ++ [hexv (L.getD (2 * j) 0) * 16 + hexv (L.getD (2 * j + 1) 0)]
/-- Are the first j pairs digits? -/
def hexG (L : List Int) (j : Nat) : Prop := ∀ i, i < j → 0 ≤ hexv (L.getD (2 * i) 0) ∧ 0 ≤ hexv (L.getD (2 * i + 1) 0)
def hexOk (L : List Int) : Bool := decide (L.length % 2 = 0) && (List.range (L.length / 2)).all fun i => decide (0 ≤ hexv (L.getD (2 * i) 0)) && decide (0 ≤ hexv (L.getD (2 * i + 1) 0))
def hexT (L : List Int) : List Int := if hexOk L = true then hexB L (L.length / 2) else []
theorem hexOk_iff (L : List Int) : hexOk L = true ↔ L.length % 2 = 0 ∧ hexG L (L.length / 2) := by
  simp only [hexOk, hexG, Bool.and_eq_true, decide_eq_true_eq, List.all_eq_true, List.mem_range]
theorem hexOk_odd {L : List Int} (h : L.length % 2 ≠ 0) : hexOk L = false := by
  cases e : hexOk L with
  | false => rfl
  | true => exact absurd ((hexOk_iff L).1 e).1 h
theorem hexOk_bad {L : List Int} {i : Nat} (hi : 2 * i + 1 < L.length) (h : hexv (L.getD (2 * i) 0) < 0 ∨ hexv (L.getD (2 * i + 1) 0) < 0) : hexOk L = false := by
  cases e : hexOk L with
  | false => rfl
  | true =>
    have := ((hexOk_iff L).1 e).2 i (by omega)
    omega
theorem hexT_bad {L : List Int} (h : hexOk L = false) : hexT L = [] := by unfold hexT; rw [if_neg (by rw [h]; exact Bool.false_ne_true)]
theorem hexT_good {L : List Int} (h : hexOk L = true) : hexT L = hexB L (L.length / 2) := by unfold hexT; rw [if_pos h]
theorem hexG_succ {L : List Int} {j : Nat} (h : hexG L j) (h1 : 0 ≤ hexv (L.getD (2 * j) 0)) (h2 : 0 ≤ hexv (L.getD (2 * j + 1) 0)) : hexG L (j + 1) := fun i hi => by
  by_cases e : i < j
  · exact h i e
  · rw [show i = j by omega]; exact ⟨h1, h2⟩
theorem length_hexB (L : List Int) (j : Nat) : (hexB L j).length = j := by
  induction j with
  | zero => rfl
  | succ j ih => simp [hexB, ih]
theorem byte_hexB {L : List Int} : ∀ {j : Nat}, hexG L j → ByteL (hexB L j)
  | 0, _ => fun c hc => by cases hc
  | j + 1, h => fun c hc => by
    rcases List.mem_append.1 hc with hc | hc
    · exact byte_hexB (fun i hi => h i (by omega)) c hc
    · have h1 := h j (by omega)
      have h2 := hexd_hexv _ h1.1
      have h3 := hexd_hexv _ h1.2
      rw [List.mem_singleton] at hc
      omega
theorem byte_hexT (L : List Int) : ByteL (hexT L) := by
  cases e : hexOk L with
  | false => rw [hexT_bad e]; intro c hc; cases hc
  | true => rw [hexT_good e]; exact byte_hexB ((hexOk_iff L).1 e).2
theorem length_hexT (L : List Int) : (hexT L).length ≤ L.length := by
  cases e : hexOk L with
  | false => rw [hexT_bad e]; simp
  | true => rw [hexT_good e, length_hexB]; omega
/-- The digits of what was taken are the text. -/
theorem hexL_hexB {L : List Int} : ∀ {j : Nat}, 2 * j ≤ L.length → hexG L j → hexL (hexB L j) = L.take (2 * j)
  | 0, _, _ => rfl
  | j + 1, hj, h => by
    have h1 := h j (by omega)
    have h2 := hexd_hexv _ h1.1
    have h3 := hexd_hexv _ h1.2
    rw [hexB, hexL_append, hexL_hexB (by omega) (fun i hi => h i (by omega)), show 2 * (j + 1) = 2 * j + 1 + 1 by omega, take_snoc L (2 * j + 1) (by omega), take_snoc L (2 * j) (by omega)]
    generalize hexv (L.getD (2 * j) 0) = a at *
    generalize hexv (L.getD (2 * j + 1) 0) = b at *
    show _ ++ [hexd ((a * 16 + b) / 16), hexd ((a * 16 + b) % 16)] = _
    rw [show (a * 16 + b) / 16 = a by omega, show (a * 16 + b) % 16 = b by omega, h2.1, h3.1, List.append_assoc]
    rfl
theorem hexL_hexT {L : List Int} (h : hexOk L = true) : hexL (hexT L) = L := by
  have h1 := (hexOk_iff L).1 h
  rw [hexT_good h, hexL_hexB (by omega) h1.2, show 2 * (L.length / 2) = L.length by omega, List.take_length]
/-- What was put is taken again. -/
theorem hexG_hexL {zs : List Int} (h : ByteL zs) : hexG (hexL zs) zs.length := fun i hi => by
  have h1 := hexL_at zs i hi
  have h2 := h.get i
  rw [h1.1, h1.2, hexv_hexd _ (by omega) (by omega), hexv_hexd _ (by omega) (by omega)]
  omega
theorem hexB_hexL {zs : List Int} (h : ByteL zs) : ∀ (j : Nat), j ≤ zs.length → hexB (hexL zs) j = zs.take j
  | 0, _ => rfl
  | j + 1, hj => by
    have h1 := hexL_at zs j (by omega)
    have h2 := h.get j
    rw [hexB, hexB_hexL h j (by omega), h1.1, h1.2, hexv_hexd _ (by omega) (by omega), hexv_hexd _ (by omega) (by omega), take_snoc zs j (by omega), show zs.getD j 0 / 16 * 16 + zs.getD j 0 % 16 = zs.getD j 0 by omega]
theorem hexOk_hexL {zs : List Int} (h : ByteL zs) : hexOk (hexL zs) = true := by
  rw [hexOk_iff, length_hexL]
  exact ⟨by omega, by rw [show 2 * zs.length / 2 = zs.length by omega]; exact hexG_hexL h⟩
theorem hexT_hexL {zs : List Int} (h : ByteL zs) : hexT (hexL zs) = zs := by
  rw [hexT_good (hexOk_hexL h), length_hexL, show 2 * zs.length / 2 = zs.length by omega, hexB_hexL h _ (Nat.le_refl _), List.take_length]

/-- A number's decimal digits. -/
def decL (n : Nat) : List Int := (Lib.decDigits n).map fun b => (b.toNat : Int)
/-- The digits, or those of the first ones. -/
def showL (zs : List Int) (most : Int) : List Int := if (zs.length : Int) ≤ most then hexL zs else hexL (zs.take most.toNat) ++ [46, 46] ++ decL zs.length

theorem str_append (a b : List Int) : strOfNums a ++ strOfNums b = strOfNums (a ++ b) := by
  apply ByteArray.ext
  simp [strOfNums]
theorem str_sbytes (s : ByteArray) : strOfNums (sbytes s) = s := by
  apply ByteArray.ext
  simp [strOfNums, sbytes, Function.comp_def]
theorem sbytes_str {zs : List Int} (h : ByteL zs) : sbytes (strOfNums zs) = zs := by
  unfold sbytes
  rw [strOfNums_data, List.map_map]
  conv => rhs; rw [← List.map_id zs]
  apply List.map_congr_left
  intro c hc
  have := h c hc
  simp only [Function.comp, UInt8.toNat_ofNat', id]
  omega
theorem byte_sbytes (s : ByteArray) : ByteL (sbytes s) := fun c hc => by
  unfold sbytes at hc
  rw [List.mem_map] at hc
  obtain ⟨b, _, rfl⟩ := hc
  have := b.toNat_lt
  omega
theorem str_dec (n : Nat) : (⟨(Lib.decDigits n).toArray⟩ : ByteArray) = strOfNums (decL n) := by
  apply ByteArray.ext
  simp [strOfNums, decL, Function.comp_def]

/-- The signs of halves, as the programs have them. -/
def hexDigits : ByteArray := ⟨#[48, 49, 50, 51, 52, 53, 54, 55, 56, 57, 97, 98, 99, 100, 101, 102]⟩
theorem hexDigits_at : ∀ k : Fin 16, sb hexDigits k.val = hexd k.val := by decide +kernel
theorem hexDigits_cut : ∀ k : Fin 16, (hexDigits.extract k.val (k.val + 1)).data.toList = (strOfNums [hexd k.val]).data.toList := by decide +kernel
theorem hexDigits_find : ∀ k : Fin 256, Lib.indexByte hexDigits.data.toList (k.val : Int).toNat.toUInt8 = hexv k.val := by decide +kernel
theorem hex_cut (k : Nat) (h : k < 16) : hexDigits.extract k (k + 1) = strOfNums [hexd k] := by
  have := hexDigits_cut ⟨k, h⟩
  apply ByteArray.ext
  exact Array.toList_inj.1 this
theorem hex_find (c : Int) (h0 : 0 ≤ c) (h1 : c < 256) : Lib.indexByte hexDigits.data.toList c.toNat.toUInt8 = hexv c := by
  have := hexDigits_find ⟨c.toNat, by omega⟩
  rw [show ((c.toNat : Nat) : Int) = c by omega] at this
  exact this
/-- Two texts, one behind the other. -/
theorem run_sadd {P : Program} (a b : List Int) (h : a.length + b.length ≤ 9223372036854775807) (w : World) : (Op.stringOp .add (strOfNums a) (strOfNums b)).run P w = .ok (.string (strOfNums (a ++ b))) w := by
  rw [run_string_add_sum _ _ _ (by rw [strOfNums_size, strOfNums_size]; exact h), str_append]
end Go.Proofs.YtgbbgdjdomkohaaGreat

/- The contract of what holds two lists of bytes against each other. -/
namespace Go.Proofs.YtgbbgdjdomkohaaGreat
open Go.RowKit

theorem run_str {P : Program} {src e dst : TypeId} (hs : P.underlying src = some (.slice e)) (he : P.underlying e = some (.int .u8)) (hd : P.underlying dst = some .string) {w : World} {B : Nat} {A : Option Addr} {zs : List Int} (cap : Nat) (hr : Rd w B .u8 A zs) :
    (convert src dst (.slice A zs.length cap)).run P w = .ok (.string (strOfNums zs)) w := by
  by_cases h0 : 0 < zs.length
  · obtain ⟨b, o, rfl, _, hc⟩ := hr h0
    exact run_convert_bytes_arg w src e hs he b o zs.length cap zs rfl hc dst hd
  · have hz : zs = [] := List.eq_nil_of_length_eq_zero (by omega)
    subst hz
    rw [run_convert_bytes_string w src dst e A _ _ hs he hd]
    cases A with
    | none => rfl
    | some a => exact run_bytesToString w a 0 cap [] (by simpa using run_loadCells_list (P := P) w a [] (by simp))
theorem str_list (zs : List Int) : (strOfNums zs).toList = zs.map (fun n => UInt8.ofNat n.toNat) := by rw [ByteArray.toList_eq, strOfNums_data]
theorem bytes_inj {a b : List Int} (ha : ByteL a) (hb : ByteL b) (h1 : a.map (fun n => UInt8.ofNat n.toNat) = b.map (fun n => UInt8.ofNat n.toNat)) : a = b := by
  have hl : a.length = b.length := by simpa using congrArg List.length h1
  apply List.ext_getElem hl
  intro i i1 i2
  have h2 := congrArg (fun l => l[i]?) h1
  simp only [List.getElem?_map, List.getElem?_eq_getElem i1, List.getElem?_eq_getElem i2, Option.map_some, Option.some.injEq] at h2
  have a1 := ha _ (List.getElem_mem i1)
  have b1 := hb _ (List.getElem_mem i2)
  have h3 := congrArg UInt8.toNat h2
  simp only [UInt8.toNat_ofNat'] at h3
  omega
end Go.Proofs.YtgbbgdjdomkohaaGreat

/- The document's keys: which of two texts is ahead, New, Byte, End. -/
namespace Go.Proofs.YtgbbgdjdomkohaaGreat
open Go.RowKit

theorem drop_at (l : List Int) (k : Nat) (h : k < l.length) : l.drop k = l.getD k 0 :: l.drop (k + 1) := by
  rw [List.drop_eq_getElem_cons h]
  simp [List.getD_eq_getElem?_getD, h]
theorem seq_step {s t : List Int} {k : Nat} (h1 : k < s.length) (h2 : k < t.length) :
    seqC intC (s.drop k) (t.drop k) = if s.getD k 0 = t.getD k 0 then seqC intC (s.drop (k + 1)) (t.drop (k + 1)) else intC (s.getD k 0) (t.getD k 0) := by
  rw [drop_at s k h1, drop_at t k h2]
  show (if intC _ _ ≠ 0 then _ else _) = _
  by_cases e : s.getD k 0 = t.getD k 0
  · rw [if_pos e, if_neg (by simpa using intC_zero.2 e)]
  · rw [if_neg e, if_pos (fun h => e (intC_zero.1 h))]
theorem intC_neg {x y : Int} : intC x y < 0 ↔ x < y := by
  unfold intC
  by_cases h : x < y
  · simp [h]
  · by_cases h' : y < x <;> simp [h, h']
theorem ahead_step {s t : List Int} {k : Nat} (h1 : k < s.length) (h2 : k < t.length) :
    ahead (s.drop k) (t.drop k) = if s.getD k 0 = t.getD k 0 then ahead (s.drop (k + 1)) (t.drop (k + 1)) else decide (s.getD k 0 < t.getD k 0) := by
  unfold ahead
  rw [seq_step h1 h2]
  by_cases e : s.getD k 0 = t.getD k 0
  · rw [if_pos e, if_pos e]
  · rw [if_neg e, if_neg e]
    exact decide_eq_decide.2 intC_neg
theorem ahead_end {s t : List Int} {k : Nat} (h1 : k ≤ s.length) (h2 : k ≤ t.length) (h : k = s.length ∨ k = t.length) : ahead (s.drop k) (t.drop k) = decide (s.length < t.length) := by
  unfold ahead
  rcases h with h | h
  · rw [h, List.drop_length]
    by_cases e : s.length < t.length
    · rw [drop_at t _ e]
      simp [seqC, e]
    · rw [List.drop_eq_nil_of_le (by omega)]
      simp [seqC, e]
  · rw [h, List.drop_length]
    rw [decide_eq_false (show ¬ s.length < t.length by omega)]
    by_cases e : t.length < s.length
    · rw [drop_at s _ e]
      simp [seqC]
    · rw [List.drop_eq_nil_of_le (by omega)]
      simp [seqC]

set_option maxRecDepth 100000 in
theorem ref_Less (s t : ByteArray) (hs : s.size ≤ 1000000000) (_ht : t.size ≤ 1000000000) (w : World) :
    Calls Tryz.prog 14 #[.string s, .string t] w fun e w' => e = .returned (.bool (ahead (sbytes s) (sbytes t))) ∧ ∃ n, w' = w.drewN n := by
  have LS := Lib.hid (length_sbytes s)
  have LT := Lib.hid (length_sbytes t)
  have HS := fun (w : World) (k : Nat) (hk : k < s.size) (x : Int) (hx : x = k) => run_sb (P := Tryz.prog) Tryz.underlying9 w s k hk x hx
  have HT := fun (w : World) (k : Nat) (hk : k < t.size) (x : Int) (hx : x = k) => run_sb (P := Tryz.prog) Tryz.underlying9 w t k hk x hx
  have ES : Hid (∀ k, sb s k = (sbytes s).getD k 0) := fun _ => rfl
  have ET : Hid (∀ k, sb t k = (sbytes t).getD k 0) := fun _ => rfl
  generalize sbytes s = S at *
  generalize sbytes t = T at *
  go_enter Tryz.func14, Tryz.ntmps14
  go_wp2_with fail
  go_loopw [5] (fun i wr => ∃ k : Nat, k ≤ s.size ∧ k ≤ t.size ∧ i = .int .i64 k ∧ Hid (ahead S T = ahead (S.drop k) (T.drop k)) ∧ ∃ n, wr = w.drewN n) (fun i _ => s.size - (intOf i).toNat)
  case atStart => exact ⟨0, Nat.zero_le _, Nat.zero_le _, rfl, rfl, 0, rfl⟩
  case round =>
    obtain ⟨k, k1, k2, rfl, hk, n, rfl⟩ := hrel
    by_cases h1 : k < s.size
    · by_cases h2 : k < t.size
      · have X1 := fun w => HS w k h1 k rfl
        have X2 := fun w => HT w k h2 k rfl
        simp only [ES.out] at X1
        simp only [ET.out] at X2
        have HE := Lib.hid (ahead_step (s := S) (t := T) (k := k) (by rw [LS.out]; exact h1) (by rw [LT.out]; exact h2))
        clear HS HT
        generalize S.getD k 0 = x at *
        generalize T.getD k 0 = y at *
        by_cases e : x = y
        · subst e
          go_wp2_with fail
          go_quiet (fail)
          go_wp2_with fail
          go_roundw
          case rel => exact ⟨k + 1, by omega, by omega, by go_num, hk.out.trans (HE.out.trans (if_pos trivial)), n + nq, rfl⟩
          case measure => simp [intOf]; omega
        · go_wp2_with fail
          go_quiet (fail)
          go_wp2_with fail
          go_quiet (fail)
          go_wp2_with fail
          go_ret
          exact ⟨by rw [hk.out, HE.out, if_neg e]; rfl, _, by simp only [World.drewN_drewN]; rfl⟩
      · have HE := Lib.hid (ahead_end (s := S) (t := T) (k := k) (by rw [LS.out]; exact k1) (by rw [LT.out]; exact k2) (.inr (by rw [LT.out]; omega)))
        clear HS HT
        go_wp2_with fail
        go_ret
        exact ⟨by rw [hk.out, HE.out, LS.out, LT.out]; simp, _, rfl⟩
    · have HE := Lib.hid (ahead_end (s := S) (t := T) (k := k) (by rw [LS.out]; exact k1) (by rw [LT.out]; exact k2) (.inl (by rw [LS.out]; omega)))
      clear HS HT
      go_wp2_with fail
      go_ret
      exact ⟨by rw [hk.out, HE.out, LS.out, LT.out]; simp, _, rfl⟩

end Go.Proofs.YtgbbgdjdomkohaaGreat

/- Keys encoded: the program's, the document's; what the sort's closure tells. -/
namespace Go.Proofs.YtgbbgdjdomkohaaGreat
open Go.RowKit

/-- A key as an item of bytes. -/
def keyIt (key : ByteArray) : It := .mk 2 0 key []
theorem keyIt_ok {key : ByteArray} (h : key.size ≤ 1048576) : okI 1048576 (keyIt key) := by
  refine ⟨by simp [keyIt, It.count, countL], fun d p hp => ?_⟩
  simp only [keyIt, It.items, itemsL, List.mem_cons, List.not_mem_nil, or_false] at hp
  subst hp
  exact ⟨Int.le_refl _, by show (0 : Int) < _; omega, h⟩
theorem keyIt_check (key : ByteArray) : checkR wrongI (keyIt key) = 0 := by
  have hd : (keyIt key).depth = 1 := by simp [keyIt, It.depth, It.items, itemsL, mostOf]
  have hw : wrongI (keyIt key) = 0 := by
    have h1 : formB (keyIt key) = true := by simp [keyIt, formB, formK, It.k, It.n, It.l]
    have h2 : rangB (keyIt key) = true := by simp [keyIt, rangB, It.k]
    unfold wrongI
    rw [if_neg (by simp [h1]), if_neg (by simp [h2]), if_neg (by simp [keyIt, It.k]), if_neg (by simp [keyIt, It.k])]
  unfold checkR
  rw [if_neg (by rw [hd]; decide)]
  simp only [keyIt, It.items, itemsL, List.map_cons, List.map_nil]
  unfold keyIt at hw
  rw [hw]
  rfl
theorem keyIt_enc (key : ByteArray) : (keyIt key).srt.enc = codeL 2 key := by
  have : (keyIt key).srt = keyIt key := by simp [keyIt, It.srt, srtL]
  rw [this, It.enc_eq]
  simp [keyIt, It.k, It.s, It.l, encL, hdK, codeL, hputL]
theorem codeL_pos (m : Int) (key : ByteArray) : 0 < (codeL m key).length := by simp [codeL, hlay]

set_option maxRecDepth 100000 in
theorem sch_encoded (key : ByteArray) (hs : key.size ≤ 1048576) (w : World) :
    Calls Tryz.prog 10 #[.string key] w fun e w' => (∃ v, e = .returned v ∧ Own w' w.heap.size .u8 5 v (codeL 2 key)) ∧ Below w.heap.size w w' := by
  have hC := enc_Encode (keyIt key) none 0 w.heap.size w (keyIt_ok hs) (by simp only [keyIt, It.bulk, bulkL]; omega) (Nat.le_refl _) ⟨Nat.le_refl _, fun _ => rfl, AtL.nil _⟩
  have hC' : Calls Tryz.prog 18 #[.agg #[.int .i64 2, .int .u64 0, .string key, .slice none 0 0]] w fun e w' => (∃ v, e = .returned (.tuple #[v, .int .i64 0]) ∧ Own w' w.heap.size .u8 5 v (codeL 2 key)) ∧ Below w.heap.size w w' := by
    refine hC.mono fun e w' h => ?_
    rcases h with ⟨h0, _⟩ | ⟨_, _, v, h1, h2, h3⟩
    · exact absurd (keyIt_check key) h0
    · rw [keyIt_enc] at h2
      exact ⟨⟨v, h1, h2⟩, h3⟩
  have HC := Lib.hid hC'
  clear hC hC'
  go_enter Tryz.func10, Tryz.ntmps10
  go_wp2_with (first
    | (go_at_call 18; refine HC.out.mono ?_; rintro e w2 ⟨⟨v, rfl, hO⟩, hb2⟩; have HO := Lib.hid hO; have HB2 := Lib.hid hb2; clear hO hb2)
    | fail)
  go_ret
  exact ⟨⟨_, rfl, HO.out⟩, HB2.out⟩

theorem byte_code {m : Int} (hm : 0 ≤ m ∧ m ≤ 6) (key : ByteArray) : ByteL (codeL m key) := by
  have h := byte_put (m := m) (a := key.size) hm.1 (by omega) (by omega)
  unfold hputL at h
  rw [if_neg (by omega)] at h
  exact byteL_append h (byte_text key)
theorem leastW_le (a : Int) : (leastW a).toNat ≤ 8 := by
  unfold leastW
  repeat' split
  all_goals decide
theorem codeL_len (m : Int) (key : ByteArray) : (codeL m key).length ≤ key.size + 9 := by
  have h := leastW_le key.size
  rw [codeL, List.length_append, hlay_length, length_sbytes]
  omega
theorem conv_own' {w : World} {B : Nat} {v : Value} {L : List Int} (h : Own w B .u8 5 v L) : (convert 46 9 v).run Tryz.prog w = .ok (.string (strOfNums L)) w := by
  obtain ⟨A, cap, rfl, _, _, _, _, hr⟩ := h.form
  exact run_str (P := Tryz.prog) Tryz.underlying46 Tryz.underlying5 Tryz.underlying9 cap hr
set_option maxRecDepth 100000 in
theorem ref_code (key : ByteArray) (hs : key.size ≤ 1048576) (w : World) :
    Calls Tryz.prog 15 #[.string key] w fun e w' => e = .returned (.string (strOfNums (codeL 3 key))) ∧ Below w.heap.size w w' := by
  have hC := ref_hput 3 key.size (by omega) (by omega) (by omega) (by omega) w
  have e1 : hputL 3 key.size = hlay 3 (leastW key.size) key.size := by unfold hputL; rw [if_neg (by omega)]
  rw [e1] at hC
  have HC := Lib.hid hC
  have hz : (key.size : Int) ≤ 1048576 := by omega
  have HE : Hid (strOfNums (codeL 3 key) = strOfNums (hlay 3 (leastW key.size) key.size ++ sbytes key)) := rfl
  have hsum := fun W => run_sadd (P := Tryz.prog) (hlay 3 (leastW key.size) key.size) (sbytes key) (by have h := leastW_le key.size; rw [hlay_length, length_sbytes]; omega) W
  rw [str_sbytes, ← HE.out] at hsum
  generalize strOfNums (codeL 3 key) = R at *
  clear hC e1
  generalize hlay 3 (leastW key.size) key.size = L at *
  generalize hn : (key.size : Int) = n at *
  go_enter Tryz.func15, Tryz.ntmps15
  go_wp2_with (first
    | (go_at_call 21; refine HC.out.mono ?_; rintro e w2 ⟨v, rfl, hO, hb2⟩; have hcv := conv_own' hO; have HB2 := Lib.hid hb2; clear hO hb2)
    | fail)
  go_ret
  exact ⟨rfl, HB2.out⟩
end Go.Proofs.YtgbbgdjdomkohaaGreat

/- Schemas as plain tables: what is wrong of a node, and which node is the first. -/
namespace Go.Proofs.YtgbbgdjdomkohaaGreat

/-- A field: its key, its node, whether it may lack. -/
structure Fl where
  key : ByteArray
  node : Int
  opt : Bool
/-- A node. -/
structure Nd where
  k : Int
  lo : Int
  hi : Int
  v : It
  l : List Int
  f : List Fl
theorem Fl.eq_iff {a b : Fl} : a = b ↔ a.key = b.key ∧ a.node = b.node ∧ a.opt = b.opt := by
  cases a; cases b; simp
theorem Nd.eq_iff {a b : Nd} : a = b ↔ a.k = b.k ∧ a.lo = b.lo ∧ a.hi = b.hi ∧ a.v = b.v ∧ a.l = b.l ∧ a.f = b.f := by
  cases a; cases b; simp
def zIt : It := .mk 0 0 ⟨#[]⟩ []
/-- The node of a kind that has nothing else. -/
def Nd.of (k : Int) : Nd := ⟨k, 0, 0, zIt, [], []⟩
open Classical in
noncomputable def sameN (a b : Nd) : Bool := decide (a = b)
theorem sameN_true {a b : Nd} : sameN a b = true ↔ a = b := by simp [sameN]
theorem sameN_false {a b : Nd} : sameN a b = false ↔ a ≠ b := by simp [sameN]
theorem sameN_refl (a : Nd) : sameN a a = true := sameN_true.2 rfl
theorem sameN_of {a b : Nd} {r : Bool} (h : r = true ↔ a = b) : sameN a b = r := by
  cases r
  · exact sameN_false.2 fun e => by simpa using h.2 e
  · exact sameN_true.2 (h.1 rfl)
open Classical in
/-- All nodes alike? -/
noncomputable def sameS (a b : List Nd) : Bool := decide (a = b)
theorem sameS_true {a b : List Nd} : sameS a b = true ↔ a = b := by simp [sameS]
theorem sameS_refl (a : List Nd) : sameS a a = true := sameS_true.2 rfl
theorem sameS_of {a b : List Nd} {r : Bool} (h : r = true ↔ a = b) : sameS a b = r := by
  cases r
  · simp only [sameS, decide_eq_false_iff_not]
    exact fun e => by simpa using h.2 e
  · exact sameS_true.2 (h.1 rfl)

/-- The first that isn't 0, of n. -/
def firstE (f : Nat → Int) (n : Nat) : Int := firstErr ((List.range n).map f)
/-- .. its number. -/
def firstI (f : Nat → Int) (n : Nat) : Nat := ((List.range n).find? fun j => decide (f j ≠ 0)).getD 0
theorem firstE_all {f : Nat → Int} {n : Nat} (h : ∀ j, j < n → f j = 0) : firstE f n = 0 := firstErr_all fun x hx => by
  obtain ⟨j, hj, rfl⟩ := List.mem_map.1 hx
  exact h j (List.mem_range.1 hj)
theorem range_split {k n : Nat} (hk : k < n) : ∃ r, List.range n = List.range k ++ k :: r := by
  refine ⟨(List.range n).drop (k + 1), ?_⟩
  have h := List.take_append_drop k (List.range n)
  rw [List.drop_eq_getElem_cons (by simpa using hk)] at h
  rw [List.take_range, Nat.min_eq_left (Nat.le_of_lt hk)] at h
  simpa using h.symm
theorem firstE_at {f : Nat → Int} {n k : Nat} (hk : k < n) (h : ∀ j, j < k → f j = 0) (he : f k ≠ 0) : firstE f n = f k := by
  obtain ⟨r, hr⟩ := range_split hk
  unfold firstE
  rw [hr, List.map_append, List.map_cons]
  exact firstErr_at (fun x hx => by
    obtain ⟨j, hj, rfl⟩ := List.mem_map.1 hx
    exact h j (List.mem_range.1 hj)) he
theorem firstI_all {f : Nat → Int} {n : Nat} (h : ∀ j, j < n → f j = 0) : firstI f n = 0 := by
  unfold firstI
  rw [List.find?_eq_none.2 fun j hj => by simp [h j (List.mem_range.1 hj)]]
  rfl
theorem firstI_at {f : Nat → Int} {n k : Nat} (hk : k < n) (h : ∀ j, j < k → f j = 0) (he : f k ≠ 0) : firstI f n = k := by
  obtain ⟨r, hr⟩ := range_split hk
  unfold firstI
  rw [hr, List.find?_append, List.find?_eq_none.2 fun j hj => by simp [h j (List.mem_range.1 hj)]]
  simp [he]
theorem firstE_cases (f : Nat → Int) (n : Nat) : (∀ j, j < n → f j = 0) ∨ ∃ k, k < n ∧ (∀ j, j < k → f j = 0) ∧ f k ≠ 0 := by
  induction n with
  | zero => exact .inl fun j hj => absurd hj (by omega)
  | succ n ih =>
    rcases ih with h | ⟨k, h1, h2, h3⟩
    · by_cases e : f n = 0
      · refine .inl fun j hj => ?_
        by_cases hjn : j = n
        · rw [hjn]; exact e
        · exact h j (by omega)
      · exact .inr ⟨n, by omega, h, e⟩
    · exact .inr ⟨k, by omega, h2, h3⟩

open Classical in
/-- What is wrong of a field's key. -/
noncomputable def keyE (fs : List Fl) (j : Nat) : Int :=
  match fs[j]? with
  | none => 0
  | some x => if uok uq0 (sbytes x.key) = false then 6 else if 1021 < x.key.size then 4 else if x.key ∈ (fs.take j).map Fl.key then 14 else 0
open Classical in
theorem keyE_some {fs : List Fl} {j : Nat} {x : Fl} (h : fs[j]? = some x) : keyE fs j = if uok uq0 (sbytes x.key) = false then 6 else if 1021 < x.key.size then 4 else if x.key ∈ (fs.take j).map Fl.key then 14 else 0 := by
  unfold keyE; rw [h]
noncomputable def keysN (fs : List Fl) : Int := firstE (keyE fs) fs.length
/-- The nodes that a node names. -/
def namedN (x : Nd) : List Int := x.l ++ x.f.map Fl.node
def nameB (i m t : Int) : Bool := decide (t ≤ i) || decide (m ≤ t)
def nameE (x : Nd) (i m : Int) : Int := if (namedN x).any (nameB i m) then 13 else 0
def rangedN (x : Nd) : Bool :=
  if x.k = 2 ∨ x.k = 3 ∨ x.k = 6 then decide (0 ≤ x.lo) && decide (x.lo ≤ x.hi) else if x.k = 1 then decide (x.lo ≤ x.hi) else if x.k = 9 then decide (0 ≤ x.lo) else true
def valuedN (ch : It → Int) (v : It) : Bool := (decide (v.k = 0) || decide (v.k = 1) || decide (v.k = 2) || decide (v.k = 3) || decide (v.k = 7)) && decide (ch v = 0)
noncomputable def formN (ch : It → Int) (x : Nd) : Bool :=
  if x.k = 1 ∨ x.k = 2 ∨ x.k = 3 then sameN { x with lo := 0, hi := 0 } (Nd.of x.k)
  else if x.k = 4 then valuedN ch x.v && sameN { x with v := zIt } (Nd.of x.k)
  else if x.k = 8 then sameN { x with f := [] } (Nd.of x.k)
  else if x.k = 6 then decide (x.l.length = 1) && sameN { x with lo := 0, hi := 0, l := [] } (Nd.of x.k)
  else if x.k = 9 then decide (x.l.length = 1) && sameN { x with lo := 0, l := [] } (Nd.of x.k)
  else if x.k = 10 then decide (1 ≤ x.l.length) && sameN { x with l := [] } (Nd.of x.k)
  else if x.k = 7 then sameN { x with l := [] } (Nd.of x.k)
  else sameN x (Nd.of x.k)
/-- What is wrong of node number i of m. -/
noncomputable def wrongN (ch : It → Int) (x : Nd) (i m : Int) : Int :=
  if x.k < 0 ∨ 10 < x.k then 18 else if formN ch x = false then 11 else if rangedN x = false then 15 else if keysN x.f ≠ 0 then keysN x.f else nameE x i m
noncomputable def errN (ch : It → Int) (xs : List Nd) (i : Nat) : Int := match xs[i]? with | none => 0 | some x => wrongN ch x i xs.length
theorem errN_some {ch : It → Int} {xs : List Nd} {i : Nat} {x : Nd} (h : xs[i]? = some x) : errN ch xs i = wrongN ch x i xs.length := by unfold errN; rw [h]
noncomputable def checkE (ch : It → Int) (xs : List Nd) : Int := if xs.length < 1 ∨ 256 < xs.length then 16 else firstE (errN ch xs) xs.length
noncomputable def checkI (ch : It → Int) (xs : List Nd) : Nat := if xs.length < 1 ∨ 256 < xs.length then 0 else firstI (errN ch xs) xs.length
end Go.Proofs.YtgbbgdjdomkohaaGreat
