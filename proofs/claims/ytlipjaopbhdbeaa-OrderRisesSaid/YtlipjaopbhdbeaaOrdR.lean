
/- The document's keys: which of two texts is ahead, New, Byte, End. -/
import Derived.Test.YtlipjaopbhdbeaaOrdA
import Derived.Test.YtlipjaopbhdbeaaHexP
import Derived.Test.YtlipjaopbhdbeaaSame
import Derived.Deep.LoopGhost
import Derived.Deep.RegionLaw
namespace Go.Proofs.Ytlipjaopbhdbeaa
open Go.RowKit

theorem drop_at (l : List Int) (k : Nat) (h : k < l.length) : l.drop k = l.getD k 0 :: l.drop (k + 1) := by
  rw [List.drop_eq_getElem_cons h]
  simp [List.getD_eq_getElem?_getD, h]
theorem seq_step {s t : List Int} {k : Nat} (h1 : k < s.length) (h2 : k < t.length) :
    seqC intC (s.drop k) (t.drop k) = if s.getD k 0 = t.getD k 0 then seqC intC (s.drop (k + 1)) (t.drop (k + 1)) else intC (s.getD k 0) (t.getD k 0) := by
  rw [drop_at s k h1, drop_at t k h2]
  show (if intC _ _ ≠ 0 then _ else _) = _
  by_cases e : s.getD k 0 = t.getD k 0
  · rw [if_pos e, if_neg (by simpa using intC_zero.2 e)]
  · rw [if_neg e, if_pos (fun h => e (intC_zero.1 h))]
theorem intC_neg {x y : Int} : intC x y < 0 ↔ x < y := by
  unfold intC
  by_cases h : x < y
  · simp [h]
  · by_cases h' : y < x <;> simp [h, h']
theorem ahead_step {s t : List Int} {k : Nat} (h1 : k < s.length) (h2 : k < t.length) :
    ahead (s.drop k) (t.drop k) = if s.getD k 0 = t.getD k 0 then ahead (s.drop (k + 1)) (t.drop (k + 1)) else decide (s.getD k 0 < t.getD k 0) := by
  unfold ahead
  rw [seq_step h1 h2]
  by_cases e : s.getD k 0 = t.getD k 0
  · rw [if_pos e, if_pos e]
  · rw [if_neg e, if_neg e]
    exact decide_eq_decide.2 intC_neg
theorem ahead_end {s t : List Int} {k : Nat} (h1 : k ≤ s.length) (h2 : k ≤ t.length) (h : k = s.length ∨ k = t.length) : ahead (s.drop k) (t.drop k) = decide (s.length < t.length) := by
  unfold ahead
  rcases h with h | h
  · rw [h, List.drop_length]
    by_cases e : s.length < t.length
    · rw [drop_at t _ e]
      simp [seqC, e]
    · rw [List.drop_eq_nil_of_le (by omega)]
      simp [seqC, e]
  · rw [h, List.drop_length]
    rw [decide_eq_false (show ¬ s.length < t.length by omega)]
    by_cases e : t.length < s.length
    · rw [drop_at s _ e]
      simp [seqC]
    · rw [List.drop_eq_nil_of_le (by omega)]
      simp [seqC]

set_option maxRecDepth 100000 in
theorem ref_Less (s t : ByteArray) (hs : s.size ≤ 1000000000) (_ht : t.size ≤ 1000000000) (w : World) :
    Calls Try.prog 21 #[.string s, .string t] w fun e w' => e = .returned (.bool (ahead (sbytes s) (sbytes t))) ∧ ∃ n, w' = w.drewN n := by
  have LS := Lib.hid (length_sbytes s)
  have LT := Lib.hid (length_sbytes t)
  have HS := fun (w : World) (k : Nat) (hk : k < s.size) (x : Int) (hx : x = k) => run_sb (P := Try.prog) Try.underlying9 w s k hk x hx
  have HT := fun (w : World) (k : Nat) (hk : k < t.size) (x : Int) (hx : x = k) => run_sb (P := Try.prog) Try.underlying9 w t k hk x hx
  have ES : Hid (∀ k, sb s k = (sbytes s).getD k 0) := fun _ => rfl
  have ET : Hid (∀ k, sb t k = (sbytes t).getD k 0) := fun _ => rfl
  generalize sbytes s = S at *
  generalize sbytes t = T at *
  go_enter Try.func21, Try.ntmps21
  go_wp2_with fail
  go_loopw [5] (fun i wr => ∃ k : Nat, k ≤ s.size ∧ k ≤ t.size ∧ i = .int .i64 k ∧ Hid (ahead S T = ahead (S.drop k) (T.drop k)) ∧ ∃ n, wr = w.drewN n) (fun i _ => s.size - (intOf i).toNat)
  case atStart => exact ⟨0, Nat.zero_le _, Nat.zero_le _, rfl, rfl, 0, rfl⟩
  case round =>
    obtain ⟨k, k1, k2, rfl, hk, n, rfl⟩ := hrel
    by_cases h1 : k < s.size
    · by_cases h2 : k < t.size
      · have X1 := fun w => HS w k h1 k rfl
        have X2 := fun w => HT w k h2 k rfl
        simp only [ES.out] at X1
        simp only [ET.out] at X2
        have HE := Lib.hid (ahead_step (s := S) (t := T) (k := k) (by rw [LS.out]; exact h1) (by rw [LT.out]; exact h2))
        clear HS HT
        generalize S.getD k 0 = x at *
        generalize T.getD k 0 = y at *
        by_cases e : x = y
        · subst e
          go_wp2_with fail
          go_quiet (fail)
          go_wp2_with fail
          go_roundw
          case rel => exact ⟨k + 1, by omega, by omega, by go_num, hk.out.trans (HE.out.trans (if_pos trivial)), n + nq, rfl⟩
          case measure => simp [intOf]; omega
        · go_wp2_with fail
          go_quiet (fail)
          go_wp2_with fail
          go_quiet (fail)
          go_wp2_with fail
          go_ret
          exact ⟨by rw [hk.out, HE.out, if_neg e]; rfl, _, by simp only [World.drewN_drewN]; rfl⟩
      · have HE := Lib.hid (ahead_end (s := S) (t := T) (k := k) (by rw [LS.out]; exact k1) (by rw [LT.out]; exact k2) (.inr (by rw [LT.out]; omega)))
        clear HS HT
        go_wp2_with fail
        go_ret
        exact ⟨by rw [hk.out, HE.out, LS.out, LT.out]; simp, _, rfl⟩
    · have HE := Lib.hid (ahead_end (s := S) (t := T) (k := k) (by rw [LS.out]; exact k1) (by rw [LT.out]; exact k2) (.inl (by rw [LS.out]; omega)))
      clear HS HT
      go_wp2_with fail
      go_ret
      exact ⟨by rw [hk.out, HE.out, LS.out, LT.out]; simp, _, rfl⟩

/-- The document's keys in memory, in block g: the last one, the next one. -/
def Rk (w : World) (g m : Nat) (a b : List Int) (e : Bool) : Prop := Blk w g 41 #[.string (strOfNums a), .string (strOfNums b), .bool e, .int .i64 m]

theorem ref_New (w : World) (x : Int) (m : Nat) (hm : min (max x 0) 1024 = m) :
    Calls Try.prog 13 #[.int .i64 x] w fun e w' => e = .returned (.pointer (some ⟨w.heap.size, 0, none⟩)) ∧ Rk w' w.heap.size m [] [] false ∧ Below w.heap.size w w' := by
  obtain ⟨hx, hm0⟩ | ⟨hx, hm0⟩ | ⟨hx, hx', hm0⟩ : (x < 0 ∧ m = 0) ∨ (1024 < x ∧ m = 1024) ∨ (0 ≤ x ∧ x ≤ 1024 ∧ x = m) := by omega
  all_goals subst hm0
  all_goals clear hm
  all_goals go_enter Try.func13, Try.ntmps13
  all_goals go_wp2_with fail
  all_goals go_ret
  all_goals first | exact ⟨rfl, Blk.fresh _ _ _, below_alloc _ _⟩ | (obtain rfl : m = 0 := by omega); exact ⟨rfl, Blk.fresh _ _ _, below_alloc _ _⟩

set_option maxRecDepth 100000 in
theorem ref_Byte_full (w : World) (g m : Nat) (a b : List Int) (e : Bool) (c : Int) (h : Rk w g m a b e) (hl : b.length = m) :
    Calls Try.prog 16 #[.pointer (some ⟨g, 0, none⟩), .int .u8 c] w fun r w' => r = .returned (.bool false) ∧ Rk w' g m a b e ∧ Only g w w' := by
  have H := Lib.hid h
  have c1 := Blk.cell h 1
  have c3 := Blk.cell h 3
  have hs : ((strOfNums b).size : Int) = m := by rw [strOfNums_size, hl]
  have hs' : (strOfNums b).size = m := by rw [strOfNums_size, hl]
  simp only [List.getElem?_toArray, List.getElem?_cons_zero, List.getElem?_cons_succ] at c1 c3
  clear h
  go_enter Try.func16, Try.ntmps16
  go_wp2_with fail
  go_quiet (fail)
  go_wp2_with fail
  go_ret
  exact ⟨rfl, H.out.drewN _, Only.ofBelow (below_drawnN (Below.refl _ _) _)⟩

set_option maxRecDepth 100000 in
theorem ref_Byte (w : World) (g m : Nat) (a b : List Int) (e : Bool) (c : Int) (h : Rk w g m a b e) (hl : b.length < m) (hm : m ≤ 1024) :
    Calls Try.prog 16 #[.pointer (some ⟨g, 0, none⟩), .int .u8 c] w fun r w' => r = .returned (.bool true) ∧ Rk w' g m a (b ++ [c]) e ∧ Only g w w' := by
  have H := Lib.hid h
  have c1 := Blk.cell h 1
  have c3 := Blk.cell h 3
  have hs : ¬ (m : Int) ≤ (strOfNums b).size := by rw [strOfNums_size]; omega
  simp only [List.getElem?_toArray, List.getElem?_cons_zero, List.getElem?_cons_succ] at c1 c3
  clear h
  have P1 := run_sadd (P := Try.prog) b [c] (by simp; omega)
  go_enter Try.func16, Try.ntmps16
  go_wp2_with fail
  go_quiet (fail)
  go_wp2_with fail
  have h0 : Rk (w.drewN nq) g m a b e := H.out.drewN nq
  have hB : Only g w (w.drewN nq) := Only.ofBelow (below_drawnN (Below.refl _ _) _)
  clear c1 c3 H
  generalize w.drewN nq = wn at *
  have bq : Blk (wn.alloc (.cells #[.int .u8 c] 5)).drew wn.heap.size 5 (nums .u8 [c]) := Blk.fresh wn _ _
  have S1 : (convert 28 9 (.slice (some ⟨wn.heap.size, 0, none⟩) 1 1)).run Try.prog (wn.alloc (.cells #[.int .u8 c] 5)).drew = .ok (.string (strOfNums [c])) (wn.alloc (.cells #[.int .u8 c] 5)).drew := run_str (zs := [c]) Try.underlying28 Try.underlying5 Try.underlying9 1 bq.rd
  have h1 : Blk (wn.alloc (.cells #[.int .u8 c] 5)).drew g 41 #[.string (strOfNums a), .string (strOfNums b), .bool e, .int .i64 m] := Blk.alloc h0 _
  have c1 := Blk.cell h0 1
  have c2 := h1.cell 1
  have f2 := h1.free 1
  simp only [List.getElem?_toArray, List.getElem?_cons_zero, List.getElem?_cons_succ] at c1 c2
  have H1 := Lib.hid h1
  have HB := Lib.hid (hB.trans (Only.ofBelow (below_drawn (below_alloc wn (.cells #[.int .u8 c] 5)))))
  clear bq h1 h0 hB hl hm
  go_region
  all_goals go_wp2_with fail
  all_goals go_ret
  all_goals exact ⟨rfl, H1.out.put 1 _, HB.out.put 1 _⟩

set_option maxRecDepth 100000 in
theorem ref_End (w : World) (g m : Nat) (a b : List Int) (e : Bool) (h : Rk w g m a b e) (ha : ByteL a) (hb : ByteL b) (la : a.length ≤ 1024) (lb : b.length ≤ 1024) :
    Calls Try.prog 18 #[.pointer (some ⟨g, 0, none⟩)] w fun r w' => r = .returned (.bool (!e || ahead a b)) ∧ Rk w' g m b [] true ∧ Only g w w' := by
  have HL := Lib.hid (ref_Less (strOfNums a) (strOfNums b) (by rw [strOfNums_size]; omega) (by rw [strOfNums_size]; omega))
  rw [sbytes_str ha, sbytes_str hb] at HL
  have H := Lib.hid h
  have c0 := Blk.cell h 0
  have c1 := Blk.cell h 1
  have c2 := Blk.cell h 2
  have hf := Blk.free h
  simp only [List.getElem?_toArray, List.getElem?_cons_zero, List.getElem?_cons_succ] at c0 c1 c2
  have f0 := hf 0
  have f1 := hf 1
  have f2 := hf 2
  clear h hf ha hb la lb
  generalize ahead a b = z at *
  cases e
  · go_enter Try.func18, Try.ntmps18
    go_wp2_with fail
    go_quiet (fail)
    go_wp2_with fail
    go_ret
    exact ⟨rfl, (((H.out.drewN nq).put 0 _).put 1 _).put 2 _, (((Only.ofBelow (below_drawnN (Below.refl _ _) _)).put 0 _).put 1 _).put 2 _⟩
  · go_enter Try.func18, Try.ntmps18
    go_wp2_with fail
    go_quiet ((with_reducible exact Calls.quiet_of (HL.out _)))
    go_wp2_with fail
    go_ret
    exact ⟨rfl, (((H.out.drewN nq).put 0 _).put 1 _).put 2 _, (((Only.ofBelow (below_drawnN (Below.refl _ _) _)).put 0 _).put 1 _).put 2 _⟩
end Go.Proofs.Ytlipjaopbhdbeaa
