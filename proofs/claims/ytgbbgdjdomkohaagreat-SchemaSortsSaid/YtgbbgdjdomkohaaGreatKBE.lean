/- The document's answer for texts: what a sign tells of the states. -/
import Derived.Test.YtgbbgdjdomkohaaGreatKAV
import Derived.Test.YtgbbgdjdomkohaaGreatKBD
import Derived.Test.YtgbbgdjdomkohaaGreatKBB
import Derived.StillTail
import Derived.Lib.QuietBelowIn
import Derived.OwnWalkIn
import Derived.Test.YtgbbgdjdomkohaaGreatKAK
import Derived.Test.YtgbbgdjdomkohaaGreatKBA
import Derived.Test.YtgbbgdjdomkohaaGreatKAX
namespace Go.Proofs.YtgbbgdjdomkohaaGreat
open Go.RowKit
set_option maxRecDepth 100000

theorem ufol_spec (s : ByteArray) : ∀ (n i : Nat), (∀ j, j < ufol s i n → isF s (i + j)) ∧ (ufol s i n < n → ¬ isF s (i + ufol s i n))
  | 0, i => ⟨fun j hj => by simp [ufol] at hj, fun h => by simp [ufol] at h⟩
  | n + 1, i => by
    obtain ⟨h1, h2⟩ := ufol_spec s n (i + 1)
    by_cases hf : isF s i
    · have e : ufol s i (n + 1) = 1 + ufol s (i + 1) n := by
        show (if isF s i then 1 + ufol s (i + 1) n else 0) = _
        rw [if_pos hf]
      rw [e]
      refine ⟨fun j hj => ?_, fun h => ?_⟩
      · cases j with
        | zero => exact hf
        | succ j => rw [show i + (j + 1) = i + 1 + j by omega]; exact h1 j (by omega)
      · rw [show i + (1 + ufol s (i + 1) n) = i + 1 + ufol s (i + 1) n by omega]
        exact h2 (by omega)
    · have e : ufol s i (n + 1) = 0 := by
        show (if isF s i then 1 + ufol s (i + 1) n else 0) = _
        rw [if_neg hf]
      rw [e]
      exact ⟨fun j hj => by omega, fun _ => hf⟩
/-- The state after p bytes of a text. -/
def uS (s : ByteArray) (p : Nat) : UQ := ust uq0 (sbytes s) p
theorem uS_succ (s : ByteArray) (p : Nat) (h : p < s.size) : uS s (p + 1) = ustep (uS s p) (sb s p) := ust_succ _ _ _ (by rw [length_sbytes]; exact h)
theorem ustep_none {q : UQ} {c : Int} (h : q.left = 0) (hw : q.wr = false) (hm : umore c = none) : (ustep q c).wr = true := by
  unfold ustep; rw [if_neg (by simp [hw]), if_pos h, hm]
theorem ustep_some {q : UQ} {c : Int} {n : Nat} (h : q.left = 0) (hw : q.wr = false) (hm : umore c = some n) : ustep q c = ⟨n, ulo c, uhi c, false⟩ := by
  unfold ustep; rw [if_neg (by simp [hw]), if_pos h, hm]
theorem ustep_bad {n : Nat} {lo hi c : Int} (h : c < lo ∨ hi < c) : (ustep ⟨n + 1, lo, hi, false⟩ c).wr = true := by
  unfold ustep; rw [if_neg (by simp), if_neg (by simp), if_pos h]
theorem ustep_good {n : Nat} {lo hi c : Int} (h : lo ≤ c) (h' : c ≤ hi) : ustep ⟨n + 1, lo, hi, false⟩ c = ⟨n, 128, 191, false⟩ := by
  unfold ustep; rw [if_neg (by simp), if_neg (by simp), if_neg (by show ¬ (c < lo ∨ hi < c); omega)]; rfl
/-- What n and k tell of the sign at place p. -/
def Tells (s : ByteArray) (p n k : Nat) : Prop :=
  (n = 0 ∧ k = 0 ∧ (uS s (p + 1)).wr = true) ∨
  (1 ≤ n ∧ n ≤ 4 ∧ k ≤ n ∧ p + k ≤ s.size ∧ (∀ j, j ≤ k → (uS s (p + j)).wr = false) ∧ (k = n → (uS s (p + k)).left = 0) ∧ (k < n → (uS s (p + k)).left ≠ 0 ∧ (p + k < s.size → (uS s (p + k + 1)).wr = true)))
theorem follows {s : ByteArray} {i m : Nat} (h0 : uS s i = ⟨m, 128, 191, false⟩) : ∀ u, u ≤ m → (∀ j, j < u → isF s (i + j)) → uS s (i + u) = ⟨m - u, 128, 191, false⟩
  | 0, _, _ => h0
  | u + 1, hu, hf => by
    have ih := follows h0 u (by omega) (fun j hj => hf j (by omega))
    obtain ⟨g1, g2, g3⟩ := hf u (by omega)
    rw [show i + (u + 1) = i + u + 1 by omega, uS_succ s _ g1, ih, show m - u = m - (u + 1) + 1 by omega, ustep_good g2 g3]
theorem ref_sign (s : ByteArray) (hs : s.size ≤ 1000000000) (p : Nat) (h0 : p < s.size) (hl : (uS s p).left = 0) (hw : (uS s p).wr = false) (w : World) :
    Calls Tryz.prog 9 #[.string s, .int .i64 p] w fun e w' => ∃ n k : Nat, e = .returned (.tuple #[.int .i64 n, .int .i64 k]) ∧ Tells s p n k ∧ w = w' := by
  have e1 := uS_succ s p h0
  cases hm : umore (sb s p) with
  | none =>
    refine (ref_sign_none s p h0 hm w).mono ?_
    rintro e w' ⟨rfl, rfl⟩
    exact ⟨0, 0, rfl, Or.inl ⟨rfl, rfl, by rw [e1]; exact ustep_none hl hw hm⟩, rfl⟩
  | some m =>
    rw [ustep_some hl hw hm] at e1
    cases m with
    | zero =>
      refine (ref_sign_one s p h0 hm w).mono ?_
      rintro e w' ⟨rfl, rfl⟩
      refine ⟨1, 1, rfl, Or.inr ⟨by omega, by omega, by omega, by omega, fun j hj => ?_, fun _ => by rw [e1], fun h => by omega⟩, rfl⟩
      rcases Nat.lt_or_ge j 1 with h | h
      · rw [show j = 0 by omega]; exact hw
      · rw [show j = 1 by omega, e1]
    | succ m =>
      have hL := lead_of hm
      have hm3 : m + 1 ≤ 3 := by have := umore_some hm; omega
      by_cases h1 : p + 1 < s.size
      · have e2 := uS_succ s (p + 1) h1
        rw [e1] at e2
        by_cases hb : sb s (p + 1) < ulo (sb s p) ∨ uhi (sb s p) < sb s (p + 1)
        · refine (ref_sign_bad s hs p (m + 2) _ _ hL h1 hb w).mono ?_
          rintro e w' ⟨rfl, rfl⟩
          refine ⟨m + 2, 1, rfl, Or.inr ⟨by omega, by omega, by omega, by omega, fun j hj => ?_, fun h => by omega, fun _ => ⟨by rw [e1]; exact Nat.succ_ne_zero _, fun _ => by rw [e2]; exact ustep_bad hb⟩⟩, rfl⟩
          rcases Nat.lt_or_ge j 1 with h | h
          · rw [show j = 0 by omega]; exact hw
          · rw [show j = 1 by omega, e1]
        · refine (ref_sign_good s hs p (m + 2) _ _ hL h1 (by omega) (by omega) w).mono ?_
          rintro e w' ⟨rfl, rfl⟩
          rw [ustep_good (by omega) (by omega)] at e2
          obtain ⟨f1, f2⟩ := ufol_spec s m (p + 2)
          have fle := ufol_le s m (p + 2)
          have hf := fun u hu => follows (s := s) (i := p + 2) (m := m) e2 u hu
          rw [show m + 2 - 2 = m by omega]
          have hin : p + (2 + ufol s (p + 2) m) ≤ s.size := by
            rcases Nat.eq_zero_or_pos (ufol s (p + 2) m) with h | h
            · omega
            · have := (f1 (ufol s (p + 2) m - 1) (by omega)).1
              omega
          generalize ufol s (p + 2) m = u at *
          have hu := hf u fle f1
          refine ⟨m + 2, 2 + u, rfl, Or.inr ⟨by omega, by omega, by omega, hin, fun j hj => ?_, fun h => ?_, fun h => ⟨?_, fun hlt => ?_⟩⟩, rfl⟩
          · rcases Nat.lt_or_ge j 1 with h | h
            · rw [show j = 0 by omega]; exact hw
            · rcases Nat.lt_or_ge j 2 with h' | h'
              · rw [show j = 1 by omega, e1]
              · rw [show p + j = p + 2 + (j - 2) by omega, hf (j - 2) (by omega) (fun i hi => f1 i (by omega))]
          · rw [show p + (2 + u) = p + 2 + u by omega, hu]
            show m - u = 0
            omega
          · rw [show p + (2 + u) = p + 2 + u by omega, hu]
            show m - u ≠ 0
            omega
          · rw [uS_succ s _ hlt, show p + (2 + u) = p + 2 + u by omega, hu, show m - u = m - u - 1 + 1 by omega]
            refine ustep_bad ?_
            have := f2 (by omega)
            unfold isF at this
            omega
      · refine (ref_sign_short s hs p (m + 2) _ _ hL h0 (by omega) w).mono ?_
        rintro e w' ⟨rfl, rfl⟩
        refine ⟨m + 2, 1, rfl, Or.inr ⟨by omega, by omega, by omega, by omega, fun j hj => ?_, fun h => by omega, fun _ => ⟨by rw [e1]; exact Nat.succ_ne_zero _, fun h => by omega⟩⟩, rfl⟩
        rcases Nat.lt_or_ge j 1 with h | h
        · rw [show j = 0 by omega]; exact hw
        · rw [show j = 1 by omega, e1]
end Go.Proofs.YtgbbgdjdomkohaaGreat

/- The document's answer for texts: First. -/
namespace Go.Proofs.YtgbbgdjdomkohaaGreat
open Go.RowKit
set_option maxRecDepth 100000

theorem uS_at {s : ByteArray} (p : Nat) (hp : p < s.size) (h : (uS s p).wr = false) (h' : (uS s (p + 1)).wr = true) : uat uq0 (sbytes s) 0 = p ∧ uok uq0 (sbytes s) = false :=
  ⟨uat_some p (by rw [length_sbytes]; exact hp) h h', uok_wr (k := p + 1) (by rw [length_sbytes]; exact hp) h'⟩
theorem uS_end {s : ByteArray} (h : ∀ j, j ≤ s.size → (uS s j).wr = false) : uat uq0 (sbytes s) 0 = -1 ∧ uok uq0 (sbytes s) = ((uS s s.size).left == 0) := by
  refine ⟨uat_none (fun k hk => h k (by rwa [length_sbytes] at hk)), ?_⟩
  have e : urun uq0 (sbytes s) = uS s s.size := by unfold uS; rw [← length_sbytes, ust_all]
  unfold uok udone
  rw [e, h _ (Nat.le_refl _)]
  rfl
set_option maxHeartbeats 1000000 in
theorem ref_First (s : ByteArray) (hs : s.size ≤ 1000000000) (w : World) :
    Calls Tryz.prog 5 #[.string s] w fun e w' => e = .returned (.tuple #[.int .i64 (uat uq0 (sbytes s) 0), .bool (uok uq0 (sbytes s))]) ∧ w = w' := by
  go_enter Tryz.func5, Tryz.ntmps5
  go_wp2_with fail
  go_loop [4] (fun x => ∃ p : Nat, p ≤ s.size ∧ x = .int .i64 p ∧ (uS s p).left = 0 ∧ ∀ j, j ≤ p → (uS s j).wr = false) (fun x => s.size - (intOf x).toNat)
  case atStart => exact ⟨0, by omega, rfl, rfl, fun j hj => by rw [show j = 0 by omega]; rfl⟩
  case round =>
    obtain ⟨p, hp, rfl, hl, hw⟩ := hrel
    by_cases hlt : p < s.size
    · have HS := Lib.hid (ref_sign s hs p hlt hl (hw p (Nat.le_refl _)) w)
      have HW := Lib.hid hw
      clear hw hl
      go_wp2_with fail
      refine HS.out.mono ?_
      rintro e w' ⟨n, k, rfl, ht, rfl⟩
      clear HS
      rcases ht with ⟨rfl, rfl, hx⟩ | ⟨h1, h4, hkn, hin, hno, heq, hne⟩
      · obtain ⟨ea, eo⟩ := uS_at p hlt (HW.out p (Nat.le_refl _)) hx
        have EX := Lib.hid (And.intro ea eo)
        clear ea eo hx
        go_wp2_with fail
        go_ret2
        exact ⟨by rw [EX.out.1, EX.out.2]; rfl, rfl⟩
      · have hn0 : ((n : Int) == 0) = false := by rw [beq_eq_false_iff_ne]; omega
        have hall : ∀ j, j ≤ p + k → (uS s j).wr = false := fun j hj => by
          rcases Nat.lt_or_ge j p with h | h
          · exact HW.out j (by omega)
          · rw [show j = p + (j - p) by omega]; exact hno _ (by omega)
        have HA := Lib.hid hall
        clear hno HW hall
        by_cases hk : k < n
        · obtain ⟨h5, h6⟩ := hne hk
          by_cases hq : p + k < s.size
          · have h7 := h6 hq
            obtain ⟨ea, eo⟩ := uS_at (p + k) hq (HA.out _ (Nat.le_refl _)) h7
            rw [show ((p + k : Nat) : Int) = (p : Int) + k by simp] at ea
            have EX := Lib.hid (And.intro ea eo)
            clear ea eo h7 h5 h6 heq hne HA
            have hq' : (p : Int) + k < (s.size : Int) := by omega
            go_wp2_with fail
            go_ret2
            exact ⟨by rw [EX.out.1, EX.out.2]; rfl, rfl⟩
          · have hpk : p + k = s.size := by omega
            obtain ⟨ea, eo⟩ := uS_end (s := s) (fun j hj => HA.out j (by omega))
            rw [← hpk, show ((uS s (p + k)).left == 0) = false by simpa using h5] at eo
            have EX := Lib.hid (And.intro ea eo)
            clear ea eo h5 h6 heq hne HA
            have hq' : ¬ (p : Int) + k < (s.size : Int) := by omega
            go_wp2_with fail
            go_ret2
            exact ⟨by rw [EX.out.1, EX.out.2]; rfl, rfl⟩
        · have hkn' : k = n := by omega
          subst hkn'
          have HL := Lib.hid (heq rfl)
          clear heq hne
          go_wp2_with fail
          go_round
          case rel => exact ⟨p + k, hin, by go_num, HL.out, HA.out⟩
          case measure => simp [intOf]; omega
    · have hps : p = s.size := by omega
      subst hps
      obtain ⟨ea, eo⟩ := uS_end hw
      rw [hl] at eo
      have EX := Lib.hid (And.intro ea eo)
      clear ea eo hw hl
      go_wp2_with fail
      go_ret2
      exact ⟨by rw [EX.out.1, EX.out.2]; rfl, rfl⟩
end Go.Proofs.YtgbbgdjdomkohaaGreat

/- Package ullageref08: wrong. -/
namespace Go.Proofs.YtgbbgdjdomkohaaGreat
open Go.RowKit

theorem evens_get : ∀ (l : List It) (i : Nat), (evens l)[i]? = l[2 * i]?
  | [], i => by simp [evens]
  | [a], 0 => by simp [evens]
  | [a], i + 1 => by simp [evens]
  | a :: b :: r, 0 => by simp [evens]
  | a :: b :: r, i + 1 => by
    rw [evens, List.getElem?_cons_succ, evens_get r i, show 2 * (i + 1) = 2 * i + 1 + 1 by omega, List.getElem?_cons_succ, List.getElem?_cons_succ]
theorem twice_of {l : List It} {i j : Nat} {X : It} (hi : i % 2 = 0) (hj : j % 2 = 0) (hij : i < j) (h1 : l[i]? = some X) (h2 : l[j]? = some X) : twiceB l = true := by
  rw [twiceB_true]
  have g1 := evens_get l (i / 2)
  have g2 := evens_get l (j / 2)
  rw [show 2 * (i / 2) = i by omega, h1] at g1
  rw [show 2 * (j / 2) = j by omega, h2] at g2
  obtain ⟨k1, e1⟩ := List.getElem?_eq_some_iff.1 g1
  obtain ⟨k2, e2⟩ := List.getElem?_eq_some_iff.1 g2
  exact ⟨i / 2, j / 2, by omega, k2, e1.trans e2.symm⟩
theorem not_twice {l : List It} (h : ∀ (i j : Nat) (X : It), i % 2 = 0 → j % 2 = 0 → i < j → l[i]? = some X → l[j]? = some X → False) : twiceB l = false := by
  rw [twiceB_false]
  rintro ⟨i, j, hi, hj, he⟩
  have g1 := evens_get l i
  have g2 := evens_get l j
  rw [List.getElem?_eq_getElem (by omega)] at g1
  rw [List.getElem?_eq_getElem hj, ← he] at g2
  exact h (2 * i) (2 * j) _ (by omega) (by omega) (by omega) g1.symm g2.symm
theorem formK_out {k m : Int} {a b : Bool} (h : k < 0 ∨ 8 < k) : formK k a b m = false := by
  unfold formK
  rw [if_neg (by omega), if_neg (by omega), if_neg (by omega), if_neg (by omega), if_neg (by omega)]
end Go.Proofs.YtgbbgdjdomkohaaGreat

/- Package ullageref08: Check. -/
namespace Go.Proofs.YtgbbgdjdomkohaaGreat
open Go.RowKit

end Go.Proofs.YtgbbgdjdomkohaaGreat

/- A region that draws its order, inside a round of a loop over a function too: operations that only read, and calls that lay blocks of their own, walked once in the order of the text; others may stand behind them. -/
namespace Go.Proofs.YtgbbgdjdomkohaaGreat
open Go Go.Sort

section
variable {F : Fence} {m : Nat} {P : Program} {ops : Array Oper} {md : Region.Mode} {C : World → Prop}

def isDefer : Op → Bool
  | .defer _ => true
  | _ => false
def noDefer (ops : Array Oper) : Bool := ops.all fun o => !isDefer o.op
theorem noDefer_spec (h : noDefer ops = true) {i : Nat} {o : Oper} (ho : ops[i]? = some o) : ∀ c, o.op ≠ .defer c := by
  intro c e
  unfold noDefer at h
  rw [Array.all_eq_true] at h
  obtain ⟨hi, he⟩ := Array.getElem?_eq_some_iff.1 ho
  have := h i hi
  rw [he, e] at this
  cases this
theorem wpIn_of_quietR {o : Oper} {a : Act} {K : Act → Prop} {K' : Act → World → Prop} {Q' : Exit → Act → World → Prop} {w : World} (hd : ∀ c, o.op ≠ .defer c) (hw : C w) (h : ∀ a w', C w' → K a → K' a w')
    (ha : o.askedIn F P a C) (hh : o.quietIn F m P a C K) : o.wpIn F m P a w K' Q' := by
  obtain ⟨v, h1, h2⟩ := hh
  have h3 := h1 w hw
  unfold Oper.quietAtIn at h3
  unfold Oper.wpIn
  refine ⟨ha w hw, ?_⟩
  rw [Oper.semAt_plain F _ _ hd]
  generalize (execOp a.eval o).run P w = r at *
  cases r with
  | ok x w' =>
    cases x <;> simp only [Oper.quietUponIn] at h3 <;> simp only [Oper.uponIn]
    case value u =>
      obtain ⟨e1, e2⟩ := h3
      rw [e1, e2]
      exact h _ _ hw h2
    case skip =>
      obtain ⟨e1, e2⟩ := h3
      rw [e1, ← e2]
      exact h _ _ hw h2
    case enter f args =>
      obtain ⟨e1, hd, hc⟩ := h3
      rw [e1]
      exact ⟨hd, hc.mono fun e w'' ⟨he, hw''⟩ => by subst he; exact h _ _ hw'' h2⟩
  | halt x w' => simp only [Oper.quietUponIn] at h3
theorem wpOpIn_of_qOpInR {i : Nat} {a : Act} {K : Act → Prop} {K' : Act → World → Prop} {Q' : Exit → Act → World → Prop} {w : World} (hnd : noDefer ops = true) (hC : C w) (h : ∀ a w', C w' → K a → K' a w')
    (hh : qOpIn F m P ops C i K a) : wpOpIn F m P ops Q' i K' a w := by
  unfold qOpIn at hh
  unfold wpOpIn
  split
  · rename_i ho; simp only [ho] at hh; exact h _ _ hC hh
  · rename_i o ho
    simp only [ho] at hh
    obtain ⟨ha, hh⟩ := hh
    split
    · rename_i hw; simp only [hw, if_true] at hh; exact wpIn_of_quietR (noDefer_spec hnd ho) hC h ha hh
    · rename_i hw; simp only [hw] at hh; exact ⟨ha w hC, h _ _ hC hh⟩
theorem wpAnyIn_of_quietR {Q : Act → Prop} {Q' : Exit → Act → World → Prop} (hnd : noDefer ops = true) (hQ : ∀ a w, C w → Q a → Q' .normal a w) : ∀ (fuel : Nat) (listed : Array Bool) (a : Act) (w : World), C w →
    wpAnyQIn F m P md ops C Q fuel listed a → wpAnyIn F m P md ops Q' fuel listed a w
  | 0, _, _, _, hw, h => ⟨h.1, hQ _ _ hw h.2⟩
  | fuel + 1, _, _, _, hw, h => ⟨fun h0 => hQ _ _ hw (h.1 h0), fun i hi => wpOpIn_of_qOpInR hnd hw (fun a' w' hw' => wpAnyIn_of_quietR hnd hQ fuel _ a' w' hw') (h.2 i hi)⟩
/-- The whole region only reads, its callees lay blocks of their own. -/
theorem wpIn_region_quietR {id : Nat} {Q : Exit → Act → World → Prop} {a : Act} {w : World} {l : List Oper} (hm : P.follows .mixedOrders = true) (hnd : noDefer l.toArray = true) (hB : Region.lexB .any l.toArray = true)
    (h : wpQuietIn F m P l.toArray (fun w' => ∃ p : Regrown, w' = grow (redrawn w p.d) p.os) (fun a' => ∀ w', (∃ p : Regrown, w' = grow (redrawn w p.d) p.os) → Q .normal a' w') l a) : (Code.region id l.toArray true).wpIn F m P Q a w := by
  simp only [Region.lexB, Bool.and_eq_true] at hB
  refine wpIn_region_any hm (wpAnyIn_of_quietR (C := fun w' => ∃ p : Regrown, w' = grow (redrawn w p.d) p.os) (Q := fun a' => ∀ w', (∃ p : Regrown, w' = grow (redrawn w p.d) p.os) → Q .normal a' w') hnd (fun _ w' hw' h => h w' hw') _ _ _ _ ⟨⟨w.drawn + 1, #[]⟩, by rw [grow_empty]; rfl⟩ ?_)
  have := wpAnyQIn_lex (F := F) (n := m) (C := fun w' => ∃ p : Regrown, w' = grow (redrawn w p.d) p.os) (md := .any) hB.1 l 0 (Array.replicate l.toArray.size false) a (by simp) (by simpa using hB.2) h
  simpa using this

/-- f operations come up, all ahead of number n, whatever their order; then L holds. -/
def headQIn (F : Fence) (m : Nat) (P : Program) (md : Region.Mode) (ops : Array Oper) (C : World → Prop) (n : Nat) (L : Array Bool → Act → Prop) : Nat → Array Bool → Act → Prop
  | 0, seen, a => L seen a
  | f + 1, seen, a => Region.ready md ops seen ≠ [] ∧ ∀ i, i ∈ Region.ready md ops seen → i < n ∧ qOpIn F m P ops C i (fun b => headQIn F m P md ops C n L f (seen.setIfInBounds i true) b) a
theorem any_of_headQIn {n g : Nat} {L : Array Bool → Act → Prop} {R : Exit → Act → World → Prop} (hnd : noDefer ops = true) (hL : ∀ seen a w, C w → L seen a → wpAnyIn F m P md ops R g seen a w) (f : Nat) :
    ∀ (seen : Array Bool) (a : Act) (w : World), C w → headQIn F m P md ops C n L f seen a → wpAnyIn F m P md ops R (f + g) seen a w := by
  induction f with
  | zero => intro seen a w hw h; rw [Nat.zero_add]; exact hL _ _ _ hw h
  | succ f ih =>
    intro seen a w hw h
    rw [Nat.add_right_comm]
    refine ⟨fun e => (h.1 e).elim, fun i hi => ?_⟩
    exact wpOpIn_of_qOpInR hnd hw (fun b w' hw' hb => ih _ b w' hw' hb) (h.2 i hi).2
theorem headQIn_first {n i : Nat} {oi : Oper} {v : Value} {L : Array Bool → Act → Prop} (hi : ops[i]? = some oi) (hsel : ∀ (j : Nat) (o : Oper) cs b, ops[j]? = some o → o.op ≠ .select cs b)
    (hs : Region.sinkB md ops n = true) (hc : Region.chainB md ops n = true) (hn : n < ops.size) (hin : i < n) (hend : ∀ seen a, L seen a → ∀ j, j ∈ Region.ready md ops seen → n ≤ j) (f : Nat) :
    ∀ (seen : Array Bool) (a : Act), HeadInv md ops n seen → (∀ j oj, ops[j]? = some oj → j ≠ i → seen.getD j true = false → (∀ e ∈ oj.after, Region.binds md e = true → e.on ≠ i) → oi.apart ops oj = true) →
      i ∈ Region.ready md ops seen → YieldsQuiet F m P ops C oi v a → headQIn F m P md ops C n L f (seen.setIfInBounds i true) (a.put oi.dst v) → headQIn F m P md ops C n L (f + 1) seen a := by
  induction f with
  | zero =>
    intro seen a inv _ hr hy H
    refine ⟨List.ne_nil_of_mem hr, fun j hj => ?_⟩
    have hjn : j < n := Nat.lt_of_not_le fun hle => tail_waits hs hc hn inv _ i rfl hin (mem_ready.1 hr).1 j hle hj
    refine ⟨hjn, ?_⟩
    rcases Decidable.em (j = i) with e | e
    · rw [e]; exact hy.qOpIn hi H
    · exact absurd (hend _ _ H j (ready_mono hj e)) (Nat.not_le_of_lt hjn)
  | succ f ih =>
    intro seen a inv hfree hr hy H
    have hun := (mem_ready.1 hr).1
    refine ⟨List.ne_nil_of_mem hr, fun j hj => ?_⟩
    have hjn : j < n := Nat.lt_of_not_le fun hle => tail_waits hs hc hn inv _ i rfl hin hun j hle hj
    refine ⟨hjn, ?_⟩
    rcases Decidable.em (j = i) with e | e
    · rw [e]; exact hy.qOpIn hi H
    obtain ⟨hju, oj, hoj, hall⟩ := mem_ready.1 hj
    have hno : ∀ x ∈ oj.after, Region.binds md x = true → x.on ≠ i := fun x hx hb he => by
      have := hall x hx hb
      rw [he, getD_both hun] at this
      exact Bool.noConfusion this
    have h1 := (H.2 j (ready_mono hj e)).2
    have h2 := qOpIn_put hoj (hfree j oj hoj e hju hno) (fun cs b => hsel i oi cs b hi) (fun cs b => hsel j oj cs b hoj) hy h1
    refine qOpIn_mono (fun b hb => ?_) h2
    refine ih _ b (inv.set hj hjn) (fun k ok hk hki hku hkn => ?_) (ready_mono hr (Ne.symm e)) hb.1 ?_
    · refine hfree k ok hk hki ?_ hkn
      rcases Decidable.em (j = k) with ejk | ejk
      · rw [← ejk]; exact hju
      · rwa [getD_set_ne true ejk] at hku
    · rw [Array.setIfInBounds_comm _ _ e]
      exact hb.2
theorem headQIn_lex {n g : Nat} {K : Act → Prop} (hsel : Region.noSelect ops = true) (hs : Region.sinkB md ops n = true) (hc : Region.chainB md ops n = true) (hn : n < ops.size) (l : List Oper) :
    ∀ (k : Nat) (seen : Array Bool) (a : Act), (∀ j, j < l.length → l[j]? = ops[k + j]?) → k + l.length = n → HeadInv md ops n seen → Region.lexHead md ops g l.length k seen = true → wpQuietIn F m P ops C K l a →
      headQIn F m P md ops C n (fun s b => Region.seqB md ops g n s = true ∧ K b) l.length seen a := by
  induction l with
  | nil =>
    intro k seen a _ hk _ hB h
    obtain rfl : k = n := hk
    exact ⟨hB, h⟩
  | cons o l ih =>
    intro k seen a hl hk inv hB h
    have h0 : ops[k]? = some o := (hl 0 (Nat.succ_pos _)).symm
    rw [List.length_cons] at hk
    simp only [List.length_cons, Region.lexHead, Bool.and_eq_true, List.contains_iff_mem] at hB
    have hkn : k < n := by omega
    have hq : qOpIn F m P ops C k (wpQuietIn F m P ops C K l) a := by unfold qOpIn; rw [h0]; exact h
    obtain ⟨v, hy, hK⟩ := yieldsQuiet_of_qOpIn h0 hq
    refine headQIn_first h0 (Region.noSelect_spec hsel) hs hc hn hkn (fun s b hL => seqB_ready hL.1) l.length seen a inv (Region.free_spec h0 hB.1.2) hB.1.1 hy ?_
    refine ih (k + 1) _ _ (fun j hj => ?_) (by omega) (inv.set hB.1.1 hkn) hB.2 hK
    have := hl (j + 1) (by simpa using hj)
    rw [show k + 1 + j = k + (j + 1) by omega, ← this]
    rfl
theorem wpAnyIn_of_seq {Q' : Exit → Act → World → Prop} : ∀ (l : List Oper) (k : Nat) (listed : Array Bool) (a : Act) (w : World), (∀ j, l[j]? = ops[k + j]?) →
    Region.seqB md ops l.length k listed = true → wpListIn F m P ops Q' l a w → wpAnyIn F m P md ops Q' l.length listed a w
  | [], _, _, _, _, _, hB, h => ⟨by simpa [Region.seqB] using hB, h⟩
  | o :: l, k, listed, a, w, hl, hB, h => by
    have h0 : ops[k]? = some o := by simpa using (hl 0).symm
    simp only [List.length_cons, Region.seqB, Bool.and_eq_true, decide_eq_true_eq] at hB
    refine ⟨fun h1 => (by rw [hB.1] at h1; cases h1), fun i hi => ?_⟩
    rw [hB.1] at hi
    have hik : i = k := by simpa using hi
    subst hik
    have hw : wpOpIn F m P ops Q' i (wpListIn F m P ops Q' l) a w := by unfold wpOpIn; simp only [h0]; exact h
    exact wpOpIn_mono (fun a' w' h' => wpAnyIn_of_seq l (i + 1) _ a' w' (fun j => by have := hl (j + 1); simpa [Nat.add_assoc, Nat.add_comm 1 j] using this) hB.2 h') hw
/-- The region: its first n operations so, the others behind them in the order of the text. -/
theorem wpIn_region_tailR {id : Nat} {Q : Exit → Act → World → Prop} {a : Act} {w : World} {l : List Oper} (n : Nat) (hm : P.follows .mixedOrders = true) (hnd : noDefer l.toArray = true) (hB : Region.lexTailB .any l.toArray n = true)
    (h : wpQuietIn F m P l.toArray (fun w' => ∃ p : Regrown, w' = grow (redrawn w p.d) p.os) (fun b => ∀ w', (∃ p : Regrown, w' = grow (redrawn w p.d) p.os) → wpListIn F m P l.toArray Q (l.drop n) b w') (l.take n) a) : (Code.region id l.toArray true).wpIn F m P Q a w := by
  simp only [Region.lexTailB, Bool.and_eq_true, decide_eq_true_eq] at hB
  obtain ⟨⟨⟨⟨hsel, hn⟩, hs⟩, hc⟩, hlex⟩ := hB
  have hn' : n < l.length := hn
  have htl : (l.take n).length = n := by rw [List.length_take]; omega
  have hsz : l.toArray.size - n = (l.drop n).length := by rw [List.length_drop]; rfl
  rw [hsz] at hlex
  have inv0 : HeadInv .any l.toArray n (Array.replicate l.toArray.size false) :=
    ⟨Array.size_replicate, fun j _ _ hj => (by rw [getD_replicate_false] at hj; exact Bool.noConfusion hj), fun t _ ht => getD_in (by rw [Array.size_replicate]; exact ht) (getD_replicate_false _ _)⟩
  have H := headQIn_lex (md := .any) hsel hs hc hn (l.take n) 0 _ a (fun j hj => by rw [htl] at hj; simp [hj]) (by omega) inv0 (by rw [htl]; exact hlex) h
  have H2 := any_of_headQIn (R := Q) (g := (l.drop n).length) hnd (fun s b w' hw' hL => wpAnyIn_of_seq (l.drop n) n s b w' (fun j => by simp [List.getElem?_drop]) hL.1 (hL.2 w' hw')) _ _ _ { w with drawn := w.drawn + 1 } ⟨⟨w.drawn + 1, #[]⟩, by rw [grow_empty]; rfl⟩ H
  refine wpIn_region_any hm ?_
  rw [htl, ← hsz, show n + (l.toArray.size - n) = l.toArray.size by have : l.toArray.size = l.length := rfl; omega] at H2
  exact H2
end
end Go.Proofs.YtgbbgdjdomkohaaGreat

/- Package item: Check, whole; what the law ItemTells asks of both sides. -/
namespace Go.Proofs.YtgbbgdjdomkohaaGreat
open Go.RowKit Go.Sort

theorem okI_item {N : Nat} {x : It} (hx : okI N x) {d : Nat} {t : It} (ht : (d, t) ∈ x.items 1) : 0 ≤ t.n ∧ t.n < 18446744073709551616 ∧ t.s.size ≤ N ∧ t.count ≤ N :=
  ⟨(hx.2 1 _ ht).1, (hx.2 1 _ ht).2.1, (hx.2 1 _ ht).2.2, Nat.le_trans (It.items_count x 1 _ ht) hx.1⟩
theorem item_CheckW (x : It) (A : Option Addr) (cap n : Nat) (w : World) (hx : okI 1048576 x) (hn : n ≤ w.heap.size) (h : AtB w n x A cap) :
    Calls Tryz.prog 26 #[vI x A cap] w fun e w' => e = .returned (.int .i64 (checkR wrongI x)) ∧ Below w.heap.size w w' := by
  have hc := hx.1
  refine item_Check x A cap n w wrongI (by omega) hn h fun d t A cap W ht hnW hat => ?_
  obtain ⟨h1, h2, h3, h4⟩ := okI_item hx ht
  exact item_checkOne t A cap n W h1 h2 (by omega) hnW hat fun _ W2 hn2 hat2 => item_twice t.l A cap n W2 (by rw [It.count_eq] at h4; omega) hn2 hat2.rl
/-- Few items stand not deep in all. -/
theorem deepSum_few {x : It} (h : x.count ≤ 200) : deepSum x ≤ 2147483647 := by
  have h1 : ∀ (l : List Nat) (B : Nat), (∀ a ∈ l, a ≤ B) → l.sum ≤ l.length * B := by
    intro l B hl
    induction l with
    | nil => simp
    | cons a r ih =>
      have h2 := ih fun b hb => hl b (List.mem_cons_of_mem _ hb)
      have h3 := hl a (List.mem_cons_self ..)
      rw [List.sum_cons, List.length_cons, Nat.add_mul]
      omega
  have h2 := h1 ((x.items 1).map (·.1)) 200 fun a ha => by
    obtain ⟨p, hp, rfl⟩ := List.mem_map.1 ha
    have := It.items_deep x 1 p hp
    omega
  rw [List.length_map, It.length_items] at h2
  have h3 : x.count * 200 ≤ 200 * 200 := Nat.mul_le_mul_right 200 h
  unfold deepSum
  omega
theorem not_great {x : It} (h : greatB x = false) : x.count ≤ 200 := by
  unfold greatB at h
  rw [Bool.or_eq_false_iff] at h
  have := of_decide_eq_false h.2
  omega
/-- What Items hands back, as it is read. -/
structure ItemsAt (x : It) (n : Nat) (w : World) (g1 g2 : Nat) : Prop where
  l1 : g1 < w.heap.size
  l2 : g2 < w.heap.size
  at_ : ∀ (k d : Nat) (X : It), (x.items 1)[k]? = some (d, X) → w.cell? ⟨g2, k, none⟩ = some (.int .i64 (d : Int)) ∧ ∃ A c, w.cell? ⟨g1, k * 4, none⟩ = some (.int .i64 X.k) ∧ w.cell? ⟨g1, k * 4 + 1, none⟩ = some (.int .u64 X.n) ∧ w.cell? ⟨g1, k * 4 + 2, none⟩ = some (.string X.s) ∧
    w.cell? ⟨g1, k * 4 + 3, none⟩ = some (.slice A X.l.length c) ∧ AtB w n X A c
theorem ItemsAt.on {x : It} {n g1 g2 : Nat} {w w' : World} (h : ItemsAt x n w g1 g2) (hb : Below w.heap.size w w') (hn : n ≤ w.heap.size) : ItemsAt x n w' g1 g2 := by
  refine ⟨Nat.lt_of_lt_of_le h.l1 hb.size, Nat.lt_of_lt_of_le h.l2 hb.size, fun k d X hk => ?_⟩
  obtain ⟨h0, A, c, c0, c1, c2, c3, ha⟩ := h.at_ k d X hk
  have e1 := hb.block g1 h.l1
  have e2 := hb.block g2 h.l2
  exact ⟨cell_kept' e2 h0, A, c, cell_kept' e1 c0, cell_kept' e1 c1, cell_kept' e1 c2, cell_kept' e1 c3, ha.keep (hb.mono hn)⟩
theorem items_at {x : It} {n B : Nat} {w : World} {v1 v2 : Value} (h : ItemsPost x n 1 B w v1 v2) : ∃ g1 c1 g2 c2, v1 = .slice (some ⟨g1, 0, none⟩) x.count c1 ∧ v2 = .slice (some ⟨g2, 0, none⟩) x.count c2 ∧ ItemsAt x n w g1 g2 := by
  obtain ⟨o1, o2⟩ := h
  have hl1 := length_its x 1
  have hl2 := length_deps x 1
  obtain ⟨g1, c1, rfl, _, _, _, hg1⟩ := o1.form (by rw [hl1]; exact count_pos x)
  obtain ⟨g2, c2, rfl, _, _, _⟩ := o2.head (by rw [hl2]; exact count_pos x)
  have hg2 := o2.lt (by rw [hl2]; exact count_pos x)
  refine ⟨g1, c1, g2, c2, by rw [hl1], by rw [hl2], hg1, hg2, fun k d X hk => ?_⟩
  have hlt : k < x.count := by
    rw [← It.length_items x 1]
    rcases Nat.lt_or_ge k (x.items 1).length with h | h
    · exact h
    · rw [List.getElem?_eq_none h] at hk; cases hk
  constructor
  · have h0 := (o2.at (j := k) (by rw [hl2]; exact hlt)).1
    have e : (deps x 1).getD k 0 = (d : Int) := by rw [deps, List.getD_eq_getElem?_getD, List.getElem?_map, hk]; rfl
    rw [e] at h0
    exact h0
  · obtain ⟨X', A, c, hX, _, c0, c1, c2, c3, ha⟩ := o1.item (i := k) (by rw [hl1]; exact hlt)
    have : (its x 1)[k]? = some X := by rw [its, List.getElem?_map, hk]; rfl
    rw [this] at hX
    cases hX
    exact ⟨A, c, c0, c1, c2, c3, ha⟩
/-- What the law's loops lean on: they turn none of it. -/
structure Cx (x : It) (few : Int) (g L Bk g1 c1 g2 c2 : Nat) (A' : Option Addr) (c' : Nat) (W : World) : Prop where
  few : W.cell? ⟨g + 1, 0, none⟩ = some (.int .u8 few)
  res : W.cell? ⟨g + 2, 0, none⟩ = some (.bool false)
  resf : W.frozen? ⟨g + 2, 0, none⟩ = false
  l : W.cell? ⟨L, 0, none⟩ = some (.slice (some ⟨g1, 0, none⟩) x.count c1)
  d : W.cell? ⟨L + 1, 0, none⟩ = some (.slice (some ⟨g2, 0, none⟩) x.count c2)
  it : ItemsAt x g W g1 g2
  bk : Blk W Bk 31 #[.int .i64 x.k, .int .u64 x.n, .string x.s, .slice A' x.l.length c']
  at_ : AtB W Bk x A' c'
  gl : g ≤ L
  lb : L + 2 ≤ Bk
theorem Cx.on {x : It} {few : Int} {g L Bk g1 c1 g2 c2 : Nat} {A' : Option Addr} {c' : Nat} {W W' : World} (h : Cx x few g L Bk g1 c1 g2 c2 A' c' W) (hb : Below W.heap.size W W') : Cx x few g L Bk g1 c1 g2 c2 A' c' W' := by
  have hl := h.bk.lt
  have hg : g ≤ W.heap.size := by have := h.gl; have := h.lb; omega
  exact ⟨(hb.cell (p := ⟨g + 1, 0, none⟩) (block_lt_of_cell h.few)).trans h.few, (hb.cell (p := ⟨g + 2, 0, none⟩) (block_lt_of_cell h.res)).trans h.res, (hb.frozen (p := ⟨g + 2, 0, none⟩) (block_lt_of_cell h.res)).trans h.resf,
    (hb.cell (p := ⟨L, 0, none⟩) (block_lt_of_cell h.l)).trans h.l, (hb.cell (p := ⟨L + 1, 0, none⟩) (block_lt_of_cell h.d)).trans h.d, h.it.on hb hg, h.bk.on hb, h.at_.keep (hb.mono (Nat.le_of_lt hl)), h.gl, h.lb⟩
/-- The told one is the next of the list. -/
theorem told_next {x : It} {pre : List Told} {z : Told} (h : (pre ++ [z]).map toldOf <+: x.items 1) : (x.items 1)[pre.length]? = some (z.d, z.t) := by
  obtain ⟨r, hr⟩ := h
  rw [← hr, List.map_append, List.append_assoc, List.getElem?_append_right (by simp)]
  simp [toldOf]
theorem told_lt {x : It} {pre : List Told} {z : Told} (h : (pre ++ [z]).map toldOf <+: x.items 1) : pre.length < x.count := by
  have := h.length_le
  rw [List.length_map, List.length_append, It.length_items] at this
  exact this
theorem told_all {x : It} {xs : List Told} (h : xs.map toldOf = x.items 1) : xs.length = x.count := by
  have := congrArg List.length h
  rwa [List.length_map, It.length_items] at this
end Go.Proofs.YtgbbgdjdomkohaaGreat

/- Package enc: what Check calls right may be encoded; what is not great is of no great bulk. -/
namespace Go.Proofs.YtgbbgdjdomkohaaGreat
open Go.RowKit

theorem over_bulk : ∀ (d : Nat) (t : It), overB d t = false → t.bulk ≤ 309 * t.count := by
  intro d
  induction d with
  | zero => intro t h; cases h
  | succ d ih =>
    intro t h
    obtain ⟨k, n, s, l⟩ := t
    simp only [overB, Bool.or_eq_false_iff, It.l, It.s] at h
    have h0 := of_decide_eq_false h.1.2
    have hl : ∀ (l : List It), l.any (overB d) = false → bulkL l ≤ 309 * countL l := by
      intro l
      induction l with
      | nil => intro _; simp [bulkL]
      | cons x r ihr =>
        intro h
        rw [List.any_cons, Bool.or_eq_false_iff] at h
        have h1 := ih x h.1
        have h2 := ihr h.2
        simp only [bulkL, countL]
        omega
    have := hl l h.2
    rw [It.bulk, It.count]
    omega
theorem great_bulk {x : It} (h : greatB x = false) : x.bulk ≤ 1000000 := by
  have h1 := not_great h
  unfold greatB at h
  rw [Bool.or_eq_false_iff] at h
  have := over_bulk 80 x h.1
  omega
mutual
theorem ok_all (t : It) (d : Nat) (h : ∀ p ∈ t.items d, okTop p.2) : t.okE := by
  obtain ⟨k, n, s, l⟩ := t
  rw [It.okE]
  rw [It.items] at h
  exact ⟨h _ (List.mem_cons_self ..), okL_all l (d + 1) fun p hp => h p (List.mem_cons_of_mem _ hp)⟩
theorem okL_all (l : List It) (d : Nat) (h : ∀ p ∈ itemsL l d, okTop p.2) : okEL l := by
  cases l with
  | nil => simp [okEL]
  | cons t r =>
    rw [itemsL] at h
    rw [okEL]
    exact ⟨ok_all t d fun p hp => h p (List.mem_append_left _ hp), okL_all r d fun p hp => h p (List.mem_append_right _ hp)⟩
end
theorem firstErr_zero : ∀ {l : List Int}, firstErr l = 0 → ∀ e ∈ l, e = 0
  | [], _, e, he => by cases he
  | x :: r, h, e, he => by
    unfold firstErr at h
    by_cases hx : x = 0
    · rw [if_neg (by simpa using hx)] at h
      rcases List.mem_cons.1 he with rfl | he
      · exact hx
      · exact firstErr_zero h e he
    · rw [if_pos hx] at h
      exact absurd h hx
theorem wrong_zero {t : It} (h : wrongI t = 0) : formB t = true ∧ rangB t = true := by
  unfold wrongI at h
  by_cases h1 : formB t = false
  · rw [if_pos h1] at h; cases h
  · rw [if_neg h1] at h
    by_cases h2 : rangB t = false
    · rw [if_pos h2] at h; cases h
    · exact ⟨by simpa using h1, by simpa using h2⟩
theorem check_ok {N : Nat} {x : It} (hN : N ≤ 1099511627776) (hx : okI N x) (h : checkR wrongI x = 0) : x.okE := by
  refine ok_all x 1 fun p hp => ?_
  have h1 : wrongI p.2 = 0 := by
    unfold checkR at h
    by_cases h64 : 64 < x.depth
    · rw [if_pos h64] at h; cases h
    · rw [if_neg h64] at h
      exact firstErr_zero h _ (List.mem_map_of_mem hp)
  obtain ⟨a, b⟩ := wrong_zero h1
  obtain ⟨c, d, e, f⟩ := okI_item hx (d := p.1) (t := p.2) hp
  refine ⟨a, b, c, d, by omega, ?_⟩
  have : p.2.l.length ≤ p.2.count := by
    rw [It.count_eq]
    have : ∀ l : List It, l.length ≤ countL l := fun l => by
      induction l with
      | nil => simp [countL]
      | cons x r ih => rw [countL, List.length_cons]; have := count_pos x; omega
    have := this p.2.l
    omega
  omega

end Go.Proofs.YtgbbgdjdomkohaaGreat

/- Package enc: what may be is encoded; Encode, Sorted. -/
namespace Go.Proofs.YtgbbgdjdomkohaaGreat
open Go.RowKit

/-- What Encode hands back. -/
def EPost (x : It) (w : World) (e : Ending) (w' : World) : Prop :=
  (checkR wrongI x ≠ 0 ∧ e = .returned (.tuple #[.slice none 0 0, .int .i64 (checkR wrongI x)]) ∧ Below w.heap.size w w') ∨
  (checkR wrongI x = 0 ∧ x.okE ∧ ∃ v, e = .returned (.tuple #[v, .int .i64 0]) ∧ Own w' w.heap.size .u8 5 v x.srt.enc ∧ Below w.heap.size w w')

set_option maxRecDepth 100000 in
theorem enc_Encode (x : It) (A : Option Addr) (cap n : Nat) (w : World) (hx : okI 1048576 x) (hb : x.bulk ≤ 1099511627776) (hn : n ≤ w.heap.size) (h : AtB w n x A cap) :
    Calls Tryz.prog 18 #[vI x A cap] w fun e w' => EPost x w e w' := by
  obtain ⟨w1, hw1, b1, S⟩ := iblk1 w 31 #[.int .i64 x.k, .int .u64 x.n, .string x.s, .slice A x.l.length cap]
  obtain ⟨p0, p1, p2, p3, -⟩ := iblk b1
  obtain ⟨r, hr⟩ : ∃ r, checkR wrongI x = r := ⟨_, rfl⟩
  have hC := item_CheckW x A cap n w1 hx (Nat.le_trans hn S.size) (h.keep (S.mono hn))
  have hX := fun (w' : World) (hb' : Below w.heap.size w w') (ok : x.okE) => enc_sorted x.count x A cap w' (Nat.le_refl _) ok hb ((h.keep (hb'.mono hn)).more (Nat.le_trans hn hb'.size))
  have hL := fun (w' : World) (A' : Option Addr) (c' B : Nat) (ok : x.okE) (ha : AtB w' w'.heap.size x.srt A' c') (hB : w'.heap.size = B) => enc_lay x.srt.count x.srt A' c' w'.heap.size B (.slice none 0 0) [] w' (Nat.le_refl _) (srt_ok x ok) (by rw [(srt_bulk x ok).1]; simpa using hb) ha (Own.nil _ _ _ _) (by omega) (by omega)
  rw [hr] at hC
  simp only [vI] at hC hX hL ⊢
  have HC := Lib.hid hC
  have HX := Lib.hid hX
  have HL := Lib.hid hL
  have HOK := Lib.hid (fun hz : r = 0 => check_ok (by omega : (1048576 : Nat) ≤ 1099511627776) hx (hr.trans hz))
  have HP : RowKit.Hid (∀ e w', ((r ≠ 0 ∧ e = .returned (.tuple #[.slice none 0 0, .int .i64 r]) ∧ Below w.heap.size w w') ∨ (r = 0 ∧ x.okE ∧ ∃ v, e = .returned (.tuple #[v, .int .i64 0]) ∧ Own w' w.heap.size .u8 5 v x.srt.enc ∧ Below w.heap.size w w')) → EPost x w e w') := Lib.hid (fun e w' h => by unfold EPost; rw [hr]; exact h)
  have HS := Lib.hid S
  have HB1 := Lib.hid b1
  clear hC hX hL hb hx h hr
  by_cases hz : r = 0
  · subst hz
    have ok := Lib.hid (HOK.out rfl)
    go_enter Tryz.func18, Tryz.ntmps18
    go_wp2_with fail
    refine HC.out.mono ?_
    rintro e w2 ⟨rfl, S2⟩
    have HS2 := Lib.hid (HS.out.trans (S2.mono HS.out.size))
    obtain ⟨q0, q1, q2, q3, -⟩ := iblk (HB1.out.on S2)
    clear S2 HC p0 p1 p2 p3 hw1
    go_wp2_with fail
    refine (HX.out _ HS2.out ok.out).mono ?_
    rintro e w3 ⟨A', c', rfl, hat, S3⟩
    have HS3 := Lib.hid (HS2.out.trans (S3.mono HS2.out.size))
    have hsz := S3.size
    have HL3 := Lib.hid (HL.out w3 A' c' _ ok.out ⟨hat.le, hat.nil, hat.at_.bound.more fun b hb => hb.2⟩ rfl)
    clear HX HL S3 hat q0 q1 q2 q3
    go_wp2_with fail
    refine HL3.out.mono ?_
    rintro e w4 ⟨v, rfl, ho, S4⟩
    have HO := Lib.hid ((ho.base HS3.out.size))
    have HS4 := Lib.hid (HS3.out.trans (S4.mono HS3.out.size))
    clear HL3 ho S4
    go_wp2_with fail
    refine bodyPost_ret (results_tmp2 rfl _ _ _) rfl ?_
    exact HP.out _ _ (.inr ⟨by trivial, ok.out, v, rfl, HO.out, HS4.out⟩)
  · go_enter Tryz.func18, Tryz.ntmps18
    go_wp2_with fail
    refine HC.out.mono ?_
    rintro e w2 ⟨rfl, S2⟩
    have HS2 := Lib.hid (HS.out.trans (S2.mono HS.out.size))
    clear S2 HC p0 p1 p2 p3 hw1
    go_wp2_with fail
    refine bodyPost_ret (results_tmp2 rfl _ _ _) rfl ?_
    exact HP.out _ _ (.inl ⟨hz, rfl, HS2.out⟩)

end Go.Proofs.YtgbbgdjdomkohaaGreat
