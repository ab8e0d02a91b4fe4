/- Bytes by digits: the plain functions. -/
import Derived.Test.YtgcgidoikpbfpaaGreatKAJ
import Derived.Test.YtgcgidoikpbfpaaGreatKAY
import Derived.Laws.BytesArg
import Derived.Lib.ItoaNum
import Derived.Lib.Bytealg
import Derived.Test.YtgcgidoikpbfpaaGreatRows
import Derived.Test.YtgcgidoikpbfpaaGreatKAB
import Derived.Test.YtgcgidoikpbfpaaGreatKBF
import Derived.Deep.LoopGhost
import Derived.Deep.RegionLaw
import Derived.Test.YtgcgidoikpbfpaaGreatKBA
import Derived.Test.YtgcgidoikpbfpaaGreatKAZ
import Derived.Test.YtgcgidoikpbfpaaGreatKAO
namespace Go.Proofs.YtgcgidoikpbfpaaGreat
open Go.RowKit

/-- The sign of half a byte. -/
def hexd (x : Int) : Int := if x < 10 then 48 + x else 87 + x
/-- Half a byte's value by its sign; -1: no such sign. -/
def hexv (c : Int) : Int := if 48 ≤ c ∧ c ≤ 57 then c - 48 else if 97 ≤ c ∧ c ≤ 102 then c - 87 else -1
def hexL : List Int → List Int
  | [] => []
  | z :: r => hexd (z / 16) :: hexd (z % 16) :: hexL r
theorem hexL_append (a b : List Int) : hexL (a ++ b) = hexL a ++ hexL b := by
  induction a with
  | nil => rfl
  | cons z r ih => simp [hexL, ih]
theorem length_hexL (zs : List Int) : (hexL zs).length = 2 * zs.length := by
  induction zs with
  | nil => rfl
  | cons z r ih => simp [hexL, ih]; omega
theorem hexL_take (zs : List Int) (k : Nat) (h : k < zs.length) : hexL (zs.take (k + 1)) = hexL (zs.take k) ++ [hexd (zs.getD k 0 / 16), hexd (zs.getD k 0 % 16)] := by
  rw [take_snoc zs k h, hexL_append]
  rfl
theorem hexd_range (x : Int) (h0 : 0 ≤ x) (h1 : x < 16) : 48 ≤ hexd x ∧ hexd x ≤ 102 := by
  unfold hexd
  split <;> omega
theorem byte_hexL {zs : List Int} (h : ByteL zs) : ByteL (hexL zs) := by
  induction zs with
  | nil => intro c hc; cases hc
  | cons z r ih =>
    intro c hc
    have hz := h z (by simp)
    have hr := ih (fun c hc => h c (by simp [hc]))
    simp only [hexL, List.mem_cons] at hc
    have h1 := hexd_range (z / 16) (by omega) (by omega)
    have h2 := hexd_range (z % 16) (by omega) (by omega)
    rcases hc with rfl | rfl | hc
    · omega
    · omega
    · exact hr c hc
theorem hexL_at (zs : List Int) : ∀ (i : Nat), i < zs.length → (hexL zs).getD (2 * i) 0 = hexd (zs.getD i 0 / 16) ∧ (hexL zs).getD (2 * i + 1) 0 = hexd (zs.getD i 0 % 16) := by
  induction zs with
  | nil => intro i hi; cases hi
  | cons z r ih =>
    intro i hi
    cases i with
    | zero => exact ⟨rfl, rfl⟩
    | succ i =>
      have := ih i (by simpa using hi)
      rw [show 2 * (i + 1) = 2 * i + 1 + 1 by omega]
      simpa [hexL, List.getD_cons_succ] using this
theorem hexv_hexd (x : Int) (h0 : 0 ≤ x) (h1 : x < 16) : hexv (hexd x) = x := by
  unfold hexv hexd
  split <;> split <;> (try split) <;> omega
theorem hexd_hexv (c : Int) (h : 0 ≤ hexv c) : hexd (hexv c) = c ∧ hexv c < 16 := by
  unfold hexv at *
  unfold hexd
  by_cases h1 : 48 ≤ c ∧ c ≤ 57
  · rw [if_pos h1]; exact ⟨by rw [if_pos (by omega)]; omega, by omega⟩
  · rw [if_neg h1] at h ⊢
    by_cases h2 : 97 ≤ c ∧ c ≤ 102
    · rw [if_pos h2] at h ⊢; exact ⟨by rw [if_neg (by omega)]; omega, by omega⟩
    · rw [if_neg h2] at h; omega

/-- The values of the first j pairs of signs. -/
def hexB (L : List Int) : Nat → List Int
  | 0 => []
  | j + 1 => hexB L j ++ [hexv (L.getD (2 * j) 0) * 16 + hexv (L.getD (2 * j + 1) 0)]
/-- Are the first j pairs digits? -/
def hexG (L : List Int) (j : Nat) : Prop := ∀ i, i < j → 0 ≤ hexv (L.getD (2 * i) 0) ∧ 0 ≤ hexv (L.getD (2 * i + 1) 0)
def hexOk (L : List Int) : Bool := decide (L.length % 2 = 0) && (List.range (L.length / 2)).all fun i => decide (0 ≤ hexv (L.getD (2 * i) 0)) && decide (0 ≤ hexv (L.getD (2 * i + 1) 0))
def hexT (L : List Int) : List Int := if hexOk L = true then hexB L (L.length / 2) else []
theorem hexOk_iff (L : List Int) : hexOk L = true ↔ L.length % 2 = 0 ∧ hexG L (L.length / 2) := by
  simp only [hexOk, hexG, Bool.and_eq_true, decide_eq_true_eq, List.all_eq_true, List.mem_range]
theorem hexOk_odd {L : List Int} (h : L.length % 2 ≠ 0) : hexOk L = false := by
  cases e : hexOk L with
  | false => rfl
  | true => exact absurd ((hexOk_iff L).1 e).1 h
theorem hexOk_bad {L : List Int} {i : Nat} (hi : 2 * i + 1 < L.length) (h : hexv (L.getD (2 * i) 0) < 0 ∨ hexv (L.getD (2 * i + 1) 0) < 0) : hexOk L = false := by
  cases e : hexOk L with
  | false => rfl
  | true =>
    have := ((hexOk_iff L).1 e).2 i (by omega)
    omega
theorem hexT_bad {L : List Int} (h : hexOk L = false) : hexT L = [] := by unfold hexT; rw [if_neg (by rw [h]; exact Bool.false_ne_true)]
theorem hexT_good {L : List Int} (h : hexOk L = true) : hexT L = hexB L (L.length / 2) := by unfold hexT; rw [if_pos h]
theorem hexG_succ {L : List Int} {j : Nat} (h : hexG L j) (h1 : 0 ≤ hexv (L.getD (2 * j) 0)) (h2 : 0 ≤ hexv (L.getD (2 * j + 1) 0)) : hexG L (j + 1) := fun i hi => by
  by_cases e : i < j
  · exact h i e
  · rw [show i = j by omega]; exact ⟨h1, h2⟩
theorem length_hexB (L : List Int) (j : Nat) : (hexB L j).length = j := by
  induction j with
  | zero => rfl
  | succ j ih => simp [hexB, ih]
theorem byte_hexB {L : List Int} : ∀ {j : Nat}, hexG L j → ByteL (hexB L j)
  | 0, _ => fun c hc => by cases hc
  | j + 1, h => fun c hc => by
    rcases List.mem_append.1 hc with hc | hc
    · exact byte_hexB (fun i hi => h i (by omega)) c hc
    · have h1 := h j (by omega)
      have h2 := hexd_hexv _ h1.1
      have h3 := hexd_hexv _ h1.2
      rw [List.mem_singleton] at hc
      omega
theorem byte_hexT (L : List Int) : ByteL (hexT L) := by
  cases e : hexOk L with
  | false => rw [hexT_bad e]; intro c hc; cases hc
  | true => rw [hexT_good e]; exact byte_hexB ((hexOk_iff L).1 e).2
theorem length_hexT (L : List Int) : (hexT L).length ≤ L.length := by
  cases e : hexOk L with
  | false => rw [hexT_bad e]; simp
  | true => rw [hexT_good e, length_hexB]; omega
/-- The digits of what was taken are the text. -/
theorem hexL_hexB {L : List Int} : ∀ {j : Nat}, 2 * j ≤ L.length → hexG L j → hexL (hexB L j) = L.take (2 * j)
  | 0, _, _ => rfl
  | j + 1, hj, h => by
    have h1 := h j (by omega)
    have h2 := hexd_hexv _ h1.1
    have h3 := hexd_hexv _ h1.2
    rw [hexB, hexL_append, hexL_hexB (by omega) (fun i hi => h i (by omega)), show 2 * (j + 1) = 2 * j + 1 + 1 by omega, take_snoc L (2 * j + 1) (by omega), take_snoc L (2 * j) (by omega)]
    generalize hexv (L.getD (2 * j) 0) = a at *
    generalize hexv (L.getD (2 * j + 1) 0) = b at *
    show _ ++ [hexd ((a * 16 + b) / 16), hexd ((a * 16 + b) % 16)] = _
    rw [show (a * 16 + b) / 16 = a by omega, show (a * 16 + b) % 16 = b by omega, h2.1, h3.1, List.append_assoc]
    rfl
theorem hexL_hexT {L : List Int} (h : hexOk L = true) : hexL (hexT L) = L := by
  have h1 := (hexOk_iff L).1 h
  rw [hexT_good h, hexL_hexB (by omega) h1.2, show 2 * (L.length / 2) = L.length by omega, List.take_length]
/-- What was put is taken again. -/
theorem hexG_hexL {zs : List Int} (h : ByteL zs) : hexG (hexL zs) zs.length := fun i hi => by
  have h1 := hexL_at zs i hi
  have h2 := h.get i
  rw [h1.1, h1.2, hexv_hexd _ (by omega) (by omega), hexv_hexd _ (by omega) (by omega)]
  omega
theorem hexB_hexL {zs : List Int} (h : ByteL zs) : ∀ (j : Nat), j ≤ zs.length → hexB (hexL zs) j = zs.take j
  | 0, _ => rfl
  | j + 1, hj => by
    have h1 := hexL_at zs j (by omega)
    have h2 := h.get j
    rw [hexB, hexB_hexL h j (by omega), h1.1, h1.2, hexv_hexd _ (by omega) (by omega), hexv_hexd _ (by omega) (by omega), take_snoc zs j (by omega), show zs.getD j 0 / 16 * 16 + zs.getD j 0 % 16 = zs.getD j 0 by omega]
theorem hexOk_hexL {zs : List Int} (h : ByteL zs) : hexOk (hexL zs) = true := by
  rw [hexOk_iff, length_hexL]
  exact ⟨by omega, by rw [show 2 * zs.length / 2 = zs.length by omega]; exact hexG_hexL h⟩
theorem hexT_hexL {zs : List Int} (h : ByteL zs) : hexT (hexL zs) = zs := by
  rw [hexT_good (hexOk_hexL h), length_hexL, show 2 * zs.length / 2 = zs.length by omega, hexB_hexL h _ (Nat.le_refl _), List.take_length]

/-- A number's decimal digits. -/
def decL (n : Nat) : List Int := (Lib.decDigits n).map fun b => (b.toNat : Int)
/-- The digits, or those of the first ones. -/
def showL (zs : List Int) (most : Int) : List Int := if (zs.length : Int) ≤ most then hexL zs else hexL (zs.take most.toNat) ++ [46, 46] ++ decL zs.length

theorem str_append (a b : List Int) : strOfNums a ++ strOfNums b = strOfNums (a ++ b) := by
  apply ByteArray.ext
  simp [strOfNums]
theorem str_sbytes (s : ByteArray) : strOfNums (sbytes s) = s := by
  apply ByteArray.ext
  simp [strOfNums, sbytes, Function.comp_def]
theorem sbytes_str {zs : List Int} (h : ByteL zs) : sbytes (strOfNums zs) = zs := by
  unfold sbytes
  rw [strOfNums_data, List.map_map]
  conv => rhs; rw [← List.map_id zs]
  apply List.map_congr_left
  intro c hc
  have := h c hc
  simp only [Function.comp, UInt8.toNat_ofNat', id]
  omega
theorem byte_sbytes (s : ByteArray) : ByteL (sbytes s) := fun c hc => by
  unfold sbytes at hc
  rw [List.mem_map] at hc
  obtain ⟨b, _, rfl⟩ := hc
  have := b.toNat_lt
  omega
theorem str_dec (n : Nat) : (⟨(Lib.decDigits n).toArray⟩ : ByteArray) = strOfNums (decL n) := by
  apply ByteArray.ext
  simp [strOfNums, decL, Function.comp_def]

/-- The signs of halves, as the programs have them. -/
def hexDigits : ByteArray := ⟨#[48, 49, 50, 51, 52, 53, 54, 55, 56, 57, 97, 98, 99, 100, 101, 102]⟩
theorem hexDigits_at : ∀ k : Fin 16, sb hexDigits k.val = hexd k.val := by decide +kernel
theorem hexDigits_cut : ∀ k : Fin 16, (hexDigits.extract k.val (k.val + 1)).data.toList = (strOfNums [hexd k.val]).data.toList := by decide +kernel
theorem hexDigits_find : ∀ k : Fin 256, Lib.indexByte hexDigits.data.toList (k.val : Int).toNat.toUInt8 = hexv k.val := by decide +kernel
theorem hex_cut (k : Nat) (h : k < 16) : hexDigits.extract k (k + 1) = strOfNums [hexd k] := by
  have := hexDigits_cut ⟨k, h⟩
  apply ByteArray.ext
  exact Array.toList_inj.1 this
theorem hex_find (c : Int) (h0 : 0 ≤ c) (h1 : c < 256) : Lib.indexByte hexDigits.data.toList c.toNat.toUInt8 = hexv c := by
  have := hexDigits_find ⟨c.toNat, by omega⟩
  rw [show ((c.toNat : Nat) : Int) = c by omega] at this
  exact this
/-- Two texts, one behind the other. -/
theorem run_sadd {P : Program} (a b : List Int) (h : a.length + b.length ≤ 9223372036854775807) (w : World) : (Op.stringOp .add (strOfNums a) (strOfNums b)).run P w = .ok (.string (strOfNums (a ++ b))) w := by
  rw [run_string_add_sum _ _ _ (by rw [strOfNums_size, strOfNums_size]; exact h), str_append]
end Go.Proofs.YtgcgidoikpbfpaaGreat

/- The contract of what holds two lists of bytes against each other. -/
namespace Go.Proofs.YtgcgidoikpbfpaaGreat
open Go.RowKit

theorem run_str {P : Program} {src e dst : TypeId} (hs : P.underlying src = some (.slice e)) (he : P.underlying e = some (.int .u8)) (hd : P.underlying dst = some .string) {w : World} {B : Nat} {A : Option Addr} {zs : List Int} (cap : Nat) (hr : Rd w B .u8 A zs) :
    (convert src dst (.slice A zs.length cap)).run P w = .ok (.string (strOfNums zs)) w := by
  by_cases h0 : 0 < zs.length
  · obtain ⟨b, o, rfl, _, hc⟩ := hr h0
    exact run_convert_bytes_arg w src e hs he b o zs.length cap zs rfl hc dst hd
  · have hz : zs = [] := List.eq_nil_of_length_eq_zero (by omega)
    subst hz
    rw [run_convert_bytes_string w src dst e A _ _ hs he hd]
    cases A with
    | none => rfl
    | some a => exact run_bytesToString w a 0 cap [] (by simpa using run_loadCells_list (P := P) w a [] (by simp))
theorem str_list (zs : List Int) : (strOfNums zs).toList = zs.map (fun n => UInt8.ofNat n.toNat) := by rw [ByteArray.toList_eq, strOfNums_data]
theorem bytes_inj {a b : List Int} (ha : ByteL a) (hb : ByteL b) (h1 : a.map (fun n => UInt8.ofNat n.toNat) = b.map (fun n => UInt8.ofNat n.toNat)) : a = b := by
  have hl : a.length = b.length := by simpa using congrArg List.length h1
  apply List.ext_getElem hl
  intro i i1 i2
  have h2 := congrArg (fun l => l[i]?) h1
  simp only [List.getElem?_map, List.getElem?_eq_getElem i1, List.getElem?_eq_getElem i2, Option.map_some, Option.some.injEq] at h2
  have a1 := ha _ (List.getElem_mem i1)
  have b1 := hb _ (List.getElem_mem i2)
  have h3 := congrArg UInt8.toNat h2
  simp only [UInt8.toNat_ofNat'] at h3
  omega
end Go.Proofs.YtgcgidoikpbfpaaGreat

/- The document's keys: which of two texts is ahead, New, Byte, End. -/
namespace Go.Proofs.YtgcgidoikpbfpaaGreat
open Go.RowKit

theorem drop_at (l : List Int) (k : Nat) (h : k < l.length) : l.drop k = l.getD k 0 :: l.drop (k + 1) := by
  rw [List.drop_eq_getElem_cons h]
  simp [List.getD_eq_getElem?_getD, h]
theorem seq_step {s t : List Int} {k : Nat} (h1 : k < s.length) (h2 : k < t.length) :
    seqC intC (s.drop k) (t.drop k) = if s.getD k 0 = t.getD k 0 then seqC intC (s.drop (k + 1)) (t.drop (k + 1)) else intC (s.getD k 0) (t.getD k 0) := by
  rw [drop_at s k h1, drop_at t k h2]
  show (if intC _ _ ≠ 0 then _ else _) = _
  by_cases e : s.getD k 0 = t.getD k 0
  · rw [if_pos e, if_neg (by simpa using intC_zero.2 e)]
  · rw [if_neg e, if_pos (fun h => e (intC_zero.1 h))]
theorem intC_neg {x y : Int} : intC x y < 0 ↔ x < y := by
  unfold intC
  by_cases h : x < y
  · simp [h]
  · by_cases h' : y < x <;> simp [h, h']
theorem ahead_step {s t : List Int} {k : Nat} (h1 : k < s.length) (h2 : k < t.length) :
    ahead (s.drop k) (t.drop k) = if s.getD k 0 = t.getD k 0 then ahead (s.drop (k + 1)) (t.drop (k + 1)) else decide (s.getD k 0 < t.getD k 0) := by
  unfold ahead
  rw [seq_step h1 h2]
  by_cases e : s.getD k 0 = t.getD k 0
  · rw [if_pos e, if_pos e]
  · rw [if_neg e, if_neg e]
    exact decide_eq_decide.2 intC_neg
theorem ahead_end {s t : List Int} {k : Nat} (h1 : k ≤ s.length) (h2 : k ≤ t.length) (h : k = s.length ∨ k = t.length) : ahead (s.drop k) (t.drop k) = decide (s.length < t.length) := by
  unfold ahead
  rcases h with h | h
  · rw [h, List.drop_length]
    by_cases e : s.length < t.length
    · rw [drop_at t _ e]
      simp [seqC, e]
    · rw [List.drop_eq_nil_of_le (by omega)]
      simp [seqC, e]
  · rw [h, List.drop_length]
    rw [decide_eq_false (show ¬ s.length < t.length by omega)]
    by_cases e : t.length < s.length
    · rw [drop_at s _ e]
      simp [seqC]
    · rw [List.drop_eq_nil_of_le (by omega)]
      simp [seqC]

set_option maxRecDepth 100000 in
theorem ref_Less (s t : ByteArray) (hs : s.size ≤ 1000000000) (_ht : t.size ≤ 1000000000) (w : World) :
    Calls Tryz.prog 36 #[.string s, .string t] w fun e w' => e = .returned (.bool (ahead (sbytes s) (sbytes t))) ∧ ∃ n, w' = w.drewN n := by
  have LS := Lib.hid (length_sbytes s)
  have LT := Lib.hid (length_sbytes t)
  have HS := fun (w : World) (k : Nat) (hk : k < s.size) (x : Int) (hx : x = k) => run_sb (P := Tryz.prog) Tryz.underlying9 w s k hk x hx
  have HT := fun (w : World) (k : Nat) (hk : k < t.size) (x : Int) (hx : x = k) => run_sb (P := Tryz.prog) Tryz.underlying9 w t k hk x hx
  have ES : Hid (∀ k, sb s k = (sbytes s).getD k 0) := fun _ => rfl
  have ET : Hid (∀ k, sb t k = (sbytes t).getD k 0) := fun _ => rfl
  generalize sbytes s = S at *
  generalize sbytes t = T at *
  go_enter Tryz.func36, Tryz.ntmps36
  go_wp2_with fail
  go_loopw [5] (fun i wr => ∃ k : Nat, k ≤ s.size ∧ k ≤ t.size ∧ i = .int .i64 k ∧ Hid (ahead S T = ahead (S.drop k) (T.drop k)) ∧ ∃ n, wr = w.drewN n) (fun i _ => s.size - (intOf i).toNat)
  case atStart => exact ⟨0, Nat.zero_le _, Nat.zero_le _, rfl, rfl, 0, rfl⟩
  case round =>
    obtain ⟨k, k1, k2, rfl, hk, n, rfl⟩ := hrel
    by_cases h1 : k < s.size
    · by_cases h2 : k < t.size
      · have X1 := fun w => HS w k h1 k rfl
        have X2 := fun w => HT w k h2 k rfl
        simp only [ES.out] at X1
        simp only [ET.out] at X2
        have HE := Lib.hid (ahead_step (s := S) (t := T) (k := k) (by rw [LS.out]; exact h1) (by rw [LT.out]; exact h2))
        clear HS HT
        generalize S.getD k 0 = x at *
        generalize T.getD k 0 = y at *
        by_cases e : x = y
        · subst e
          go_wp2_with fail
          go_quiet (fail)
          go_wp2_with fail
          go_roundw
          case rel => exact ⟨k + 1, by omega, by omega, by go_num, hk.out.trans (HE.out.trans (if_pos trivial)), n + nq, rfl⟩
          case measure => simp [intOf]; omega
        · go_wp2_with fail
          go_quiet (fail)
          go_wp2_with fail
          go_quiet (fail)
          go_wp2_with fail
          go_ret
          exact ⟨by rw [hk.out, HE.out, if_neg e]; rfl, _, by simp only [World.drewN_drewN]; rfl⟩
      · have HE := Lib.hid (ahead_end (s := S) (t := T) (k := k) (by rw [LS.out]; exact k1) (by rw [LT.out]; exact k2) (.inr (by rw [LT.out]; omega)))
        clear HS HT
        go_wp2_with fail
        go_ret
        exact ⟨by rw [hk.out, HE.out, LS.out, LT.out]; simp, _, rfl⟩
    · have HE := Lib.hid (ahead_end (s := S) (t := T) (k := k) (by rw [LS.out]; exact k1) (by rw [LT.out]; exact k2) (.inl (by rw [LS.out]; omega)))
      clear HS HT
      go_wp2_with fail
      go_ret
      exact ⟨by rw [hk.out, HE.out, LS.out, LT.out]; simp, _, rfl⟩

end Go.Proofs.YtgcgidoikpbfpaaGreat

/- Items in order, plain. -/
namespace Go.Proofs.YtgcgidoikpbfpaaGreat

def pairsOf : List It → List (It × It)
  | a :: b :: r => (a, b) :: pairsOf r
  | _ => []
def flatP : List (It × It) → List It
  | [] => []
  | p :: r => p.1 :: p.2 :: flatP r
theorem flat_pairs : ∀ (l : List It), l.length % 2 = 0 → flatP (pairsOf l) = l
  | [], _ => rfl
  | [_], h => by simp at h
  | a :: b :: r, h => by
    rw [pairsOf, flatP, flat_pairs r (by simp only [List.length_cons] at h; omega)]
theorem length_flatP (p : List (It × It)) : (flatP p).length = 2 * p.length := by
  induction p with
  | nil => rfl
  | cons x r ih => simp only [flatP, List.length_cons, ih]; omega
theorem length_pairs : ∀ (l : List It), (pairsOf l).length = l.length / 2
  | [] => rfl
  | [_] => by simp [pairsOf]
  | a :: b :: r => by
    rw [pairsOf, List.length_cons, length_pairs r]
    simp only [List.length_cons]; omega
theorem pairs_get : ∀ (l : List It) (i : Nat), i < (pairsOf l).length → ∃ a b, l[2 * i]? = some a ∧ l[2 * i + 1]? = some b ∧ (pairsOf l)[i]? = some (a, b)
  | [], i, h => by simp [pairsOf] at h
  | [_], i, h => by simp [pairsOf] at h
  | a :: b :: r, 0, _ => ⟨a, b, rfl, rfl, rfl⟩
  | a :: b :: r, i + 1, h => by
    obtain ⟨a', b', h1, h2, h3⟩ := pairs_get r i (by simpa [pairsOf] using h)
    refine ⟨a', b', ?_, ?_, by simpa [pairsOf] using h3⟩
    · rw [show 2 * (i + 1) = 2 * i + 2 by omega]; simpa using h1
    · rw [show 2 * (i + 1) + 1 = 2 * i + 1 + 2 by omega]; simpa using h2
theorem flat_perm {p q : List (It × It)} (h : p.Perm q) : (flatP p).Perm (flatP q) := by
  induction h with
  | nil => exact List.Perm.refl _
  | cons x _ ih => exact (ih.cons _).cons _
  | swap x y l =>
    simp only [flatP]
    have e1 : (y.1 :: y.2 :: x.1 :: x.2 :: flatP l) = [y.1, y.2] ++ ([x.1, x.2] ++ flatP l) := rfl
    have e2 : (x.1 :: x.2 :: y.1 :: y.2 :: flatP l) = [x.1, x.2] ++ ([y.1, y.2] ++ flatP l) := rfl
    rw [e1, e2, ← List.append_assoc, ← List.append_assoc]
    exact List.Perm.append_right _ List.perm_append_comm
  | trans _ _ h1 h2 => exact h1.trans h2
/-- Which pair is ahead. -/
noncomputable def pcmp : It × It → It × It → Int := thenC (fun p q => seqC intC p.1.enc q.1.enc) (fun p q => seqC intC p.2.enc q.2.enc)
theorem pcmp_cmp : Cmp pcmp := (intC_cmp.seq.pull fun p : It × It => p.1.enc).then (intC_cmp.seq.pull fun p : It × It => p.2.enc)
noncomputable def risen (l : List It) : List It := flatP ((pairsOf l).mergeSort fun p q => decide (pcmp p q ≤ 0))
mutual
/-- The item, its maps' pairs in order. -/
noncomputable def It.srt : It → It
  | .mk k n s l => .mk k n s (if k = 5 then risen (srtL l) else srtL l)
noncomputable def srtL : List It → List It
  | [] => []
  | t :: r => t.srt :: srtL r
end
theorem srtL_map (l : List It) : srtL l = l.map It.srt := by
  induction l with
  | nil => rfl
  | cons x r ih => rw [srtL, ih]; rfl
theorem length_srtL (l : List It) : (srtL l).length = l.length := by rw [srtL_map, List.length_map]
theorem risen_perm {l : List It} (h : l.length % 2 = 0) : (risen l).Perm l := by
  have := flat_perm (List.mergeSort_perm (pairsOf l) fun p q => decide (pcmp p q ≤ 0))
  rw [flat_pairs l h] at this
  exact this
theorem pairs_ok : ∀ {l : List It}, okEL l → ∀ p ∈ pairsOf l, p.1.okE ∧ p.2.okE
  | [], _, p, hp => by simp [pairsOf] at hp
  | [_], _, p, hp => by simp [pairsOf] at hp
  | a :: b :: r, h, p, hp => by
    rw [okEL, okEL] at h
    rw [pairsOf] at hp
    rcases List.mem_cons.1 hp with rfl | hp
    · exact ⟨h.1, h.2.1⟩
    · exact pairs_ok h.2.2 p hp
theorem pcmp_zero {p q : It × It} (hp : p.1.okE ∧ p.2.okE) (hq : q.1.okE ∧ q.2.okE) (h : pcmp p q = 0) : p = q := by
  obtain ⟨h1, h2⟩ := thenC_zero.1 h
  exact Prod.ext (enc_inj hp.1 hq.1 (seqC_eq.1 h1)) (enc_inj hp.2 hq.2 (seqC_eq.1 h2))
/-- Pairs in order are those pairs in order. -/
theorem risen_of {l : List It} {d : List (It × It)} (hok : okEL l) (hp : d.Perm (pairsOf l)) (hs : ∀ i j (_ : i < j) (hj : j < d.length), 0 ≤ pcmp d[j] d[i]) : flatP d = risen l := by
  unfold risen
  congr 1
  have hd : ∀ p ∈ d, p.1.okE ∧ p.2.okE := fun p h => pairs_ok hok p (hp.mem_iff.1 h)
  have hms := List.mergeSort_perm (pairsOf l) fun p q => decide (pcmp p q ≤ 0)
  have key : ∀ p q : It × It, pcmp q p = - pcmp p q := fun p q => pcmp_cmp.anti p q
  refine List.Perm.eq_of_pairwise (le := fun p q => pcmp p q ≤ 0) ?_ ?_ ?_ (hp.trans hms.symm)
  · intro p q h1 h2 h3 h4
    exact pcmp_zero (hd p h1) (pairs_ok hok q (hms.mem_iff.1 h2)) (by have := key p q; omega)
  · rw [List.pairwise_iff_getElem]
    intro i j hi hj hij
    have := hs i j hij hj
    have := key d[i] d[j]
    omega
  · have := List.pairwise_mergeSort (le := fun p q => decide (pcmp p q ≤ 0)) (fun a b c h1 h2 => by
      have h1 := of_decide_eq_true h1
      have h2 := of_decide_eq_true h2
      exact decide_eq_true (pcmp_cmp.le_trans h1 h2)) (fun a b => by
      have := key a b
      by_cases h : pcmp a b ≤ 0
      · simp [h]
      · have : pcmp b a ≤ 0 := by omega
        simp [this]) (pairsOf l)
    exact this.imp fun h => of_decide_eq_true h
theorem okTop_len {k n : Int} {s : ByteArray} {l l' : List It} (h : okTop (.mk k n s l)) (hl : l'.length = l.length) : okTop (.mk k n s l') := by
  unfold okTop formB rangB at *
  simp only [It.k, It.n, It.s, It.l] at *
  rw [hl]
  exact h
theorem even5 {k n : Int} {s : ByteArray} {l : List It} (h : okTop (.mk k n s l)) (h5 : k = 5) : l.length % 2 = 0 := by
  rcases ok_kinds h with ⟨a, _⟩ | ⟨a, _⟩ | ⟨a, _⟩ | ⟨_, _, _, a⟩ | ⟨a, _⟩ <;> simp only [It.k, It.l] at a <;> omega
theorem risen_ok {l : List It} (h : l.length % 2 = 0) (hok : okEL l) : okEL (risen l) := okEL_iff.2 fun t ht => okEL_iff.1 hok t ((risen_perm h).mem_iff.1 ht)
mutual
theorem srt_ok (x : It) (h : x.okE) : x.srt.okE := by
  obtain ⟨k, n, s, l⟩ := x
  rw [It.okE] at h
  have hl := length_srtL l
  have ho := srtL_ok l h.2
  rw [It.srt, It.okE]
  by_cases h5 : k = 5
  · have he := even5 h.1 h5
    rw [if_pos h5]
    exact ⟨okTop_len h.1 (by rw [(risen_perm (by omega)).length_eq, hl]), risen_ok (by omega) ho⟩
  · rw [if_neg h5]
    exact ⟨okTop_len h.1 hl, ho⟩
theorem srtL_ok (l : List It) (h : okEL l) : okEL (srtL l) := by
  cases l with
  | nil => exact h
  | cons x r =>
    rw [okEL] at h
    rw [srtL, okEL]
    exact ⟨srt_ok x h.1, srtL_ok r h.2⟩
end
theorem bulkL_perm {a b : List It} (h : a.Perm b) : bulkL a = bulkL b := by
  induction h with
  | nil => rfl
  | cons x _ ih => simp only [bulkL, ih]
  | swap x y l => simp only [bulkL]; omega
  | trans _ _ h1 h2 => exact h1.trans h2
theorem countL_perm {a b : List It} (h : a.Perm b) : countL a = countL b := by
  induction h with
  | nil => rfl
  | cons x _ ih => simp only [countL, ih]
  | swap x y l => simp only [countL]; omega
  | trans _ _ h1 h2 => exact h1.trans h2
mutual
theorem srt_bulk (x : It) (h : x.okE) : x.srt.bulk = x.bulk ∧ x.srt.count = x.count := by
  obtain ⟨k, n, s, l⟩ := x
  rw [It.okE] at h
  have hl := length_srtL l
  have ho := srtL_bulk l h.2
  rw [It.srt, It.bulk, It.bulk, It.count, It.count]
  by_cases h5 : k = 5
  · have he := even5 h.1 h5
    have hp := risen_perm (l := srtL l) (by omega)
    rw [if_pos h5, bulkL_perm hp, countL_perm hp]
    omega
  · rw [if_neg h5]
    omega
theorem srtL_bulk (l : List It) (h : okEL l) : bulkL (srtL l) = bulkL l ∧ countL (srtL l) = countL l := by
  cases l with
  | nil => exact ⟨rfl, rfl⟩
  | cons x r =>
    rw [okEL] at h
    have h1 := srt_bulk x h.1
    have h2 := srtL_bulk r h.2
    rw [srtL, bulkL, bulkL, countL, countL]
    omega
end
end Go.Proofs.YtgcgidoikpbfpaaGreat

/- Encodings are bytes. -/
namespace Go.Proofs.YtgcgidoikpbfpaaGreat
open Go.RowKit

theorem byteL_append {a b : List Int} (h : ByteL a) (k : ByteL b) : ByteL (a ++ b) := fun c hc => (List.mem_append.1 hc).elim (h c) (k c)
theorem byte_hd {t : It} (h : okTop t) : ByteL (hdK t.k t.n t.s.size t.l.length) := by
  obtain ⟨_, _, h0, h1, _, _⟩ := h
  unfold hdK
  split
  · obtain ⟨z, v, hs⟩ := shortest_ex t.n.toNat (by omega)
    rw [fhead_of hs]
    exact byte_lay (by omega) (by omega) (.inr (by have := sh_wid hs; omega))
  · split
    · exact byte_put (by omega) (by omega) (by omega)
    · split
      · exact byte_put (by omega) (by omega) (by omega)
      · split
        · exact byte_put (by omega) (by omega) (by omega)
        · exact byte_put (by omega) (by omega) h0
theorem byte_text (s : ByteArray) : ByteL (sbytes s) := fun c hc => by
  unfold sbytes at hc
  obtain ⟨b, _, rfl⟩ := List.mem_map.1 hc
  have := b.toNat_lt
  omega
mutual
theorem byte_enc (x : It) (h : x.okE) : ByteL x.enc := by
  obtain ⟨k, n, s, l⟩ := x
  rw [It.okE] at h
  rw [It.enc]
  exact byteL_append (byte_hd h.1) (byteL_append (byte_text s) (byte_encL l h.2))
theorem byte_encL (l : List It) (h : okEL l) : ByteL (encL l) := by
  cases l with
  | nil => intro c hc; simp [encL] at hc
  | cons x r =>
    rw [okEL] at h
    rw [encL]
    exact byteL_append (byte_enc x h.1) (byte_encL r h.2)
end
end Go.Proofs.YtgcgidoikpbfpaaGreat
