/- Package head: a walk's states, plainly. -/
import Derived.Test.YtchhbcmkhbfpoaaKAN
import Derived.Test.YtchhbcmkhbfpoaaKAA
import Derived.Test.YtchhbcmkhbfpoaaKAD
namespace Go.Proofs.Ytchhbcmkhbfpoaa

/-- The state behind the first k bytes of L, as long as no head has ended. -/
def HSt (L : List Int) (k : Nat) (q : HQ) : Prop :=
  (k = 0 ∧ q = hq0) ∨
  (1 ≤ k ∧ k ≤ L.length ∧ 24 ≤ L.getD 0 0 % 32 ∧ L.getD 0 0 % 32 < 28 ∧ (k : Int) ≤ hwid (L.getD 0 0 % 32) ∧
    q = ⟨L.getD 0 0 / 32, hwid (L.getD 0 0 % 32), big 18446744073709551616 (pad (L.drop 1) (k - 1)), hwid (L.getD 0 0 % 32) - k + 1, true, 0⟩)
theorem HSt.ok {L : List Int} {k : Nat} {q : HQ} (h : HSt L k q) : HOk q ∧ (q.wrong = 0 → q.opn = true → 0 < q.left) := by
  rcases h with ⟨_, rfl⟩ | ⟨h1, _, h2, h3, h4, rfl⟩
  · exact ⟨by unfold HOk hq0; simp, fun _ h => by cases h⟩
  · have hr := big_range 18446744073709551616 (pad (L.drop 1) (k - 1)) (by decide)
    have hw : hwid (L.getD 0 0 % 32) ≤ 8 := by rcases hwid_of _ h2 h3 with ⟨_, h⟩ | ⟨_, h⟩ | ⟨_, h⟩ | ⟨_, h⟩ <;> omega
    unfold HOk
    dsimp only
    exact ⟨⟨hr.1, hr.2, by omega, by omega⟩, fun _ _ => by omega⟩
theorem leastW_small {a : Int} (h : a < 24) : leastW a = 0 := by unfold leastW; rw [if_pos h]
theorem hread_nil {L : List Int} (h : L.length = 0) : hread L = hnone 0 9 := by unfold hread; rw [if_pos h]
theorem hread_bad {L : List Int} (h : 0 < L.length) (hi : 28 ≤ L.getD 0 0 % 32) : hread L = hnone 0 (hbad (L.getD 0 0 / 32) (L.getD 0 0 % 32)) := by
  unfold hread; rw [if_neg (by omega), if_pos hi]
theorem hread_small {L : List Int} (h : 0 < L.length) (hi : L.getD 0 0 % 32 < 24) : hread L = ⟨L.getD 0 0 / 32, 0, L.getD 0 0 % 32, 1, -1, 0⟩ := by
  unfold hread; rw [if_neg (by omega), if_neg (by omega), if_pos hi]
theorem hread_cut {L : List Int} (h : 0 < L.length) (hi : 24 ≤ L.getD 0 0 % 32) (hi' : L.getD 0 0 % 32 < 28) (hl : (L.length : Int) ≤ hwid (L.getD 0 0 % 32)) : hread L = hnone L.length 9 := by
  unfold hread; rw [if_neg (by omega), if_neg (by omega), if_neg (by omega), if_pos hl]
theorem hread_simple {L : List Int} (h : 0 < L.length) (hi : 24 ≤ L.getD 0 0 % 32) (hi' : L.getD 0 0 % 32 < 28) (hl : ¬ (L.length : Int) ≤ hwid (L.getD 0 0 % 32))
    (hs : L.getD 0 0 / 32 = 7 ∧ hwid (L.getD 0 0 % 32) = 1 ∧ harg L (hwid (L.getD 0 0 % 32)) < 32) : hread L = hnone 1 2 := by
  unfold hread; rw [if_neg (by omega), if_neg (by omega), if_neg (by omega), if_neg hl, if_pos hs]
theorem hread_whole {L : List Int} (h : 0 < L.length) (hi : 24 ≤ L.getD 0 0 % 32) (hi' : L.getD 0 0 % 32 < 28) (hl : ¬ (L.length : Int) ≤ hwid (L.getD 0 0 % 32))
    (hs : ¬ (L.getD 0 0 / 32 = 7 ∧ hwid (L.getD 0 0 % 32) = 1 ∧ harg L (hwid (L.getD 0 0 % 32)) < 32)) :
    hread L = hlong (L.getD 0 0 / 32) (hwid (L.getD 0 0 % 32)) (harg L (hwid (L.getD 0 0 % 32))) := by
  unfold hread; rw [if_neg (by omega), if_neg (by omega), if_neg (by omega), if_neg hl, if_neg hs]
theorem HSt.last {L : List Int} {q : HQ} (h : HSt L L.length q) : hread L = hnone L.length 9 := by
  rcases h with ⟨h0, rfl⟩ | ⟨h1, _, h2, h3, h4, _⟩
  · rw [hread_nil h0, h0]; rfl
  · exact hread_cut h1 h2 h3 h4
/-- What one more byte comes to. -/
inductive HNext (L : List Int) (k : Nat) (q : HQ) : Bool → Int → HQ → Prop
  | bad (e : Int) (q' : HQ) (he : e ≠ 0) (h : hread L = hnone k e) : HNext L k q false e q'
  | long (q' : HQ) (h : (hread L).place = k) (he : (hread L).e = 5) : HNext L k q true 5 q'
  | whole (q' : HQ) (h : hread L = ⟨q'.major, q'.width, q'.arg, k + 1, -1, 0⟩) (ho : q'.opn = false) : HNext L k q true 0 q'
  | more (q' : HQ) (h : HSt L (k + 1) q') : HNext L k q false 0 q'
theorem HSt.step {L : List Int} {k : Nat} {q : HQ} (h : HSt L k q) (hk : k < L.length) : HNext L k q (hdone q (L.getD k 0)) (herr q (L.getD k 0)) (hstep q (L.getD k 0)) := by
  unfold hdone herr hstep
  rcases h with ⟨rfl, rfl⟩ | ⟨h1, hkl, h2, h3, h4, rfl⟩
  · have e0 : hmid hq0 (L.getD 0 0) = hbeg (L.getD 0 0 / 32) (L.getD 0 0 % 32) := rfl
    rw [e0]
    by_cases hi : 28 ≤ L.getD 0 0 % 32
    · have hR := hread_bad hk hi
      have e1 : hbeg (L.getD 0 0 / 32) (L.getD 0 0 % 32) = ⟨L.getD 0 0 / 32, 0, 0, 0, true, hbad (L.getD 0 0 / 32) (L.getD 0 0 % 32)⟩ := by unfold hbeg; rw [if_pos hi]
      have hb := hbad_ne (m := L.getD 0 0 / 32) hi
      rw [e1]
      generalize hbad (L.getD 0 0 / 32) (L.getD 0 0 % 32) = b at *
      have hm : (HQ.mk (L.getD 0 0 / 32) 0 0 0 true b).more := Or.inl (by show b ≠ 0; omega)
      rw [if_pos hm, if_pos hm]
      simp only [hm, decide_true, Bool.not_true]
      exact .bad b _ (by omega) hR
    by_cases hs : L.getD 0 0 % 32 < 24
    · have hR := hread_small hk hs
      have e1 : hbeg (L.getD 0 0 / 32) (L.getD 0 0 % 32) = ⟨L.getD 0 0 / 32, 0, L.getD 0 0 % 32, 0, true, 0⟩ := by unfold hbeg; rw [if_neg hi, if_pos hs]
      rw [e1]
      have hm : ¬ (HQ.mk (L.getD 0 0 / 32) 0 (L.getD 0 0 % 32) 0 true 0).more := fun h => by rcases h with h | h; exact h rfl; exact absurd h (by show ¬ (0 : Int) < 0; decide)
      have hsh : hshort (L.getD 0 0 / 32) 0 (L.getD 0 0 % 32) = true := by unfold hshort; rw [if_neg (by omega), leastW_small hs]; rfl
      rw [if_neg hm, if_neg hm]
      dsimp only
      rw [hsh]
      simp only [hm, decide_false, Bool.not_false, if_true]
      exact .whole _ (by rw [hR]; rfl) rfl
    · have e1 : hbeg (L.getD 0 0 / 32) (L.getD 0 0 % 32) = ⟨L.getD 0 0 / 32, hwid (L.getD 0 0 % 32), 0, hwid (L.getD 0 0 % 32), true, 0⟩ := by unfold hbeg; rw [if_neg hi, if_neg hs]
      rw [e1]
      have hw : 1 ≤ hwid (L.getD 0 0 % 32) := by rcases hwid_of _ (by omega : 24 ≤ L.getD 0 0 % 32) (by omega) with ⟨_, h⟩ | ⟨_, h⟩ | ⟨_, h⟩ | ⟨_, h⟩ <;> omega
      have hm : (HQ.mk (L.getD 0 0 / 32) (hwid (L.getD 0 0 % 32)) 0 (hwid (L.getD 0 0 % 32)) true 0).more := Or.inr (by show 0 < hwid _; omega)
      rw [if_pos hm, if_pos hm]
      simp only [hm, decide_true, Bool.not_true]
      refine .more _ (Or.inr ⟨by omega, hk, by omega, by omega, by omega, ?_⟩)
      congr 1
      omega
  · have e0 : hmid ⟨L.getD 0 0 / 32, hwid (L.getD 0 0 % 32), big 18446744073709551616 (pad (L.drop 1) (k - 1)), hwid (L.getD 0 0 % 32) - k + 1, true, 0⟩ (L.getD k 0) =
        ⟨L.getD 0 0 / 32, hwid (L.getD 0 0 % 32), big 18446744073709551616 (pad (L.drop 1) k), hwid (L.getD 0 0 % 32) - k, true, if L.getD 0 0 / 32 = 7 ∧ hwid (L.getD 0 0 % 32) = 1 ∧ big 18446744073709551616 (pad (L.drop 1) k) < 32 then 2 else 0⟩ := by
      have hb : (big 18446744073709551616 (pad (L.drop 1) (k - 1)) * 256 + L.getD k 0) % 18446744073709551616 = big 18446744073709551616 (pad (L.drop 1) k) := by
        have := big_pad 18446744073709551616 (L.drop 1) (k - 1)
        rw [show k - 1 + 1 = k by omega] at this
        rw [this]
        congr 2
        simp only [List.getD_eq_getElem?_getD, List.getElem?_drop]
        rw [show 1 + (k - 1) = k by omega]
      unfold hmid hfollow
      rw [if_neg (by simp), if_pos rfl]
      dsimp only
      rw [hb]
      congr 1
      omega
    rw [e0]
    by_cases hs : L.getD 0 0 / 32 = 7 ∧ hwid (L.getD 0 0 % 32) = 1 ∧ big 18446744073709551616 (pad (L.drop 1) k) < 32
    · rw [if_pos hs]
      have hk1 : k = 1 := by omega
      subst hk1
      have hR := hread_simple (by omega) h2 h3 (by omega) (by unfold harg; rw [hs.2.1]; exact ⟨hs.1, rfl, hs.2.2⟩)
      have hm : (HQ.mk (L.getD 0 0 / 32) (hwid (L.getD 0 0 % 32)) (big 18446744073709551616 (pad (L.drop 1) 1)) (hwid (L.getD 0 0 % 32) - (1 : Nat)) true 2).more := Or.inl (by show (2 : Int) ≠ 0; decide)
      rw [if_pos hm, if_pos hm]
      simp only [hm, decide_true, Bool.not_true]
      exact .bad 2 _ (by decide) hR
    · rw [if_neg hs]
      by_cases hlt : (k : Int) < hwid (L.getD 0 0 % 32)
      · have hm : (HQ.mk (L.getD 0 0 / 32) (hwid (L.getD 0 0 % 32)) (big 18446744073709551616 (pad (L.drop 1) k)) (hwid (L.getD 0 0 % 32) - k) true 0).more := Or.inr (by show 0 < hwid _ - (k : Int); omega)
        rw [if_pos hm, if_pos hm]
        simp only [hm, decide_true, Bool.not_true]
        refine .more _ (Or.inr ⟨by omega, hk, h2, h3, by omega, ?_⟩)
        rw [show k + 1 - 1 = k by omega]
        congr 1
        omega
      · have hkw : (k : Int) = hwid (L.getD 0 0 % 32) := by omega
        have hkn : (hwid (L.getD 0 0 % 32)).toNat = k := by omega
        have hm : ¬ (HQ.mk (L.getD 0 0 / 32) (hwid (L.getD 0 0 % 32)) (big 18446744073709551616 (pad (L.drop 1) k)) (hwid (L.getD 0 0 % 32) - k) true 0).more := fun h => by
          rcases h with h | h
          · exact h rfl
          · exact absurd h (by show ¬ 0 < hwid _ - (k : Int); omega)
        have hR := hread_whole (L := L) (by omega) h2 h3 (by omega) (by unfold harg; rw [hkn]; exact hs)
        unfold harg at hR
        rw [hkn] at hR
        rw [if_neg hm, if_neg hm]
        simp only [hm, decide_false, Bool.not_false]
        cases hb : hshort (L.getD 0 0 / 32) (hwid (L.getD 0 0 % 32)) (big 18446744073709551616 (pad (L.drop 1) k)) with
        | true =>
          unfold hlong at hR
          rw [hb] at hR
          rw [if_pos rfl]
          refine .whole _ ?_ rfl
          rw [hR, ← hkw]
          congr 1
          omega
        | false =>
          unfold hlong at hR
          rw [hb] at hR
          rw [if_neg (by decide)]
          refine .long _ ?_ ?_
          · rw [hR]; exact hkw.symm
          · rw [hR]; rfl
end Go.Proofs.Ytchhbcmkhbfpoaa

/- Texts in UTF-8: the plain functions. -/
namespace Go.Proofs.Ytchhbcmkhbfpoaa
open Go.RowKit

/-- How far a sign has come: bytes to come, the bounds of the next one; gone wrong. -/
structure UQ where
  left : Nat
  lo : Int
  hi : Int
  wr : Bool
def uq0 : UQ := ⟨0, 0, 0, false⟩
def ulo (c : Int) : Int := if c = 224 then 160 else if c = 240 then 144 else 128
def uhi (c : Int) : Int := if c = 237 then 159 else if c = 244 then 143 else 191
/-- How many bytes follow a sign's first one; none: no sign begins so. -/
def umore (c : Int) : Option Nat := if 240 ≤ c ∧ c ≤ 244 then some 3 else if 224 ≤ c ∧ c ≤ 239 then some 2 else if 194 ≤ c ∧ c ≤ 223 then some 1 else if c ≤ 127 then some 0 else none
def ustep (q : UQ) (c : Int) : UQ :=
  if q.wr then q else if q.left = 0 then (match umore c with
    | some n => ⟨n, ulo c, uhi c, false⟩
    | none => { q with wr := true })
  else if c < q.lo ∨ q.hi < c then { q with wr := true } else ⟨q.left - 1, 128, 191, false⟩
def udone (q : UQ) : Bool := !q.wr && q.left == 0
def ucells (q : UQ) : Array Value := #[.int .i64 q.left, .int .u8 q.lo, .int .u8 q.hi, .bool q.wr]

def urun : UQ → List Int → UQ
  | q, [] => q
  | q, c :: r => urun (ustep q c) r
/-- The place of the first byte that can't stand there, counted from i; -1: none. -/
def uat : UQ → List Int → Nat → Int
  | _, [], _ => -1
  | q, c :: r, i => if (ustep q c).wr then i else uat (ustep q c) r (i + 1)
def uok (q : UQ) (l : List Int) : Bool := udone (urun q l)
/-- The bytes of a text. -/
def sbytes (s : ByteArray) : List Int := s.data.toList.map fun b => (b.toNat : Int)
def sb (s : ByteArray) (k : Nat) : Int := (sbytes s).getD k 0
theorem length_sbytes (s : ByteArray) : (sbytes s).length = s.size := by simp [sbytes]
theorem sb_range (s : ByteArray) (k : Nat) : 0 ≤ sb s k ∧ sb s k < 256 := by
  unfold sb sbytes
  rw [List.getD_eq_getElem?_getD, List.getElem?_map]
  cases s.data.toList[k]? with
  | none => simp
  | some b => have := b.toNat_lt; simp; omega
theorem sb_eq (s : ByteArray) (k : Nat) (h : k < s.size) : ((s[k]'h).toNat : Int) = sb s k := by
  have hl : k < s.data.toList.length := by simpa using h
  unfold sb sbytes
  rw [List.getD_eq_getElem?_getD, List.getElem?_map, List.getElem?_eq_getElem hl]
  rfl
/-- A text's byte is read. -/
theorem run_sb {P : Program} {t : TypeId} (ht : P.underlying t = some .string) (w : World) (s : ByteArray) (k : Nat) (h : k < s.size) (i : Int) (hi : i = k) : (Instr.index t (.string s) (.int .i64 i)).run P w = .ok (.int .u8 (sb s k)) w := by
  subst hi
  rw [run_index_string w t s .i64 k ht, dif_pos (by omega)]
  show Result.ok (Value.int .u8 ((s[(k : Int).toNat]'_).toNat : Int)) w = _
  rw [show ((s[(k : Int).toNat]'(by omega)).toNat : Int) = ((s[k]'h).toNat : Int) from rfl, sb_eq]
end Go.Proofs.Ytchhbcmkhbfpoaa

/- Package auto: the plain machine, byte by byte, and the plain scan of the whole. -/
namespace Go.Proofs.Ytchhbcmkhbfpoaa

/-- A frame: kind, items or pairs to come, has a key come, the key ahead, the key so far, is there one ahead. -/
structure Fr where
  kind : Int
  left : Int
  half : Bool
  last : List Int
  cur : List Int
  any : Bool
def Fr.waits (f : Fr) : Bool := f.kind == 5 && !f.half
def Fr.feeds (xs : List Int) (f : Fr) : Fr := if f.waits then { f with cur := f.cur ++ xs } else f
def Fr.full (K : Nat) (f : Fr) : Bool := f.waits && f.cur.length == K
abbrev Note := Nat × Int
/-- An event: what it is, and at which place it is told. -/
structure AEv where
  kind : Int
  major : Int
  width : Int
  arg : Int
  byte : Int
  deep : Nat
  pl : Nat
inductive Ctl
  | head (q : HQ)
  | text (n : Int) (t : Bool) (u : UQ)
  | ended
  | fin
structure AQ where
  st : List Fr
  ctl : Ctl
structure Out where
  next : Option AQ
  notes : List Note
  evs : List AEv
def begins (st : List Fr) : AQ := ⟨st, .head hq0⟩
def aq0 : AQ := begins []
/-- Behind a head. -/
def enter (st : List Fr) (m a : Int) : AQ :=
  if m = 2 ∨ m = 3 then (if a = 0 then ⟨st, .ended⟩ else ⟨st, .text a (m == 3) uq0⟩)
  else if m = 4 ∨ m = 5 then (if a = 0 then ⟨st, .ended⟩ else begins (⟨m, a, false, [], [], false⟩ :: st))
  else if m = 6 then begins (⟨6, 1, false, [], [], false⟩ :: st)
  else ⟨st, .ended⟩
noncomputable def hnotes (D K i : Nat) (st : List Fr) (q : HQ) (c : Int) : List Note :=
  (if herr q c = 2 then [(i, 2)] else []) ++ ((if q.opn = false ∧ D < st.length + 1 then [(i, 3)] else []) ++ ((if st.any (Fr.full K) then [(i, 4)] else []) ++ (if herr q c = 5 then [(i, 5)] else [])))
def tnotes (K i : Nat) (st : List Fr) (n : Int) (t : Bool) (u : UQ) (c : Int) : List Note :=
  (if st.any (Fr.full K) then [(i, 4)] else []) ++ (if t && !u.wr && ((ustep u c).wr || (n == 1 && !udone (ustep u c))) then [(i, 6)] else [])
noncomputable def bstep (D K i : Nat) (s : AQ) (c : Int) : Out := match s.ctl with
  | .head q => ⟨if hdone q c then some (enter (s.st.map (Fr.feeds [c])) (hstep q c).major (hstep q c).arg) else if herr q c = 0 then some ⟨s.st.map (Fr.feeds [c]), .head (hstep q c)⟩ else none,
      hnotes D K i s.st q c, if hdone q c then [⟨1, (hstep q c).major, (hstep q c).width, (hstep q c).arg, 0, s.st.length + 1, i⟩] else []⟩
  | .text n t u => ⟨some (if n = 1 then ⟨s.st.map (Fr.feeds [c]), .ended⟩ else ⟨s.st.map (Fr.feeds [c]), .text (n - 1) t (if t then ustep u c else u)⟩), tnotes K i s.st n t u c, [⟨2, 0, 0, 0, c, s.st.length + 1, i⟩]⟩
  | .ended => ⟨none, [], []⟩
  | .fin => ⟨none, [(i, 2)], []⟩
def Fr.keyed (f : Fr) : Fr := { f with half := true, last := f.cur, cur := [], any := true }
def Fr.less (f : Fr) : Fr := { f with half := false, left := f.left - 1 }
def onotes (i : Nat) (f : Fr) : List Note := if f.any && !ahead f.last f.cur then [(i - 1, 7)] else []
def endEv (key : Bool) (deep i : Nat) : AEv := ⟨if key then 4 else 3, 0, 0, 0, 0, deep, i - 1⟩
/-- An item has ended, with the byte ahead of place i. -/
def estep (i : Nat) : List Fr → AQ × List Note × List AEv
  | [] => (⟨[], .fin⟩, [], [endEv false 1 i])
  | f :: st => if f.waits then (begins (f.keyed :: st), onotes i f, [endEv true (st.length + 2) i])
      else (if f.left = 1 then ⟨st, .ended⟩ else begins (f.less :: st), [], [endEv false (st.length + 2) i])
/-- All items that end there. -/
def settle (i : Nat) : List Fr → AQ × List Note × List AEv
  | [] => (⟨[], .fin⟩, [], [endEv false 1 i])
  | f :: st => if f.waits then (begins (f.keyed :: st), onotes i f, [endEv true (st.length + 2) i])
      else if f.left = 1 then ((settle i st).1, (settle i st).2.1, endEv false (st.length + 2) i :: (settle i st).2.2)
      else (begins (f.less :: st), [], [endEv false (st.length + 2) i])
def AQ.isEnded (s : AQ) : Bool := match s.ctl with | .ended => true | _ => false
/-- A byte, and all that ends with it. -/
noncomputable def fstep (D K i : Nat) (s : AQ) (c : Int) : Out := match (bstep D K i s c).next with
  | none => bstep D K i s c
  | some s' => if s'.isEnded then ⟨some (settle (i + 1) s'.st).1, (bstep D K i s c).notes ++ (settle (i + 1) s'.st).2.1, (bstep D K i s c).evs ++ (settle (i + 1) s'.st).2.2⟩ else bstep D K i s c

/-- The machine in small steps. -/
inductive Goes (D K : Nat) (B : List Int) : Nat → AQ → Nat → AQ → List Note → List AEv → Prop
  | refl (i s) : Goes D K B i s i s [] []
  | byte {i s s' j s'' N E} (hi : i < B.length) (h : (bstep D K i s (B.getD i 0)).next = some s') (g : Goes D K B (i + 1) s' j s'' N E) :
      Goes D K B i s j s'' ((bstep D K i s (B.getD i 0)).notes ++ N) ((bstep D K i s (B.getD i 0)).evs ++ E)
  | ende {i s j s'' N E} (h : s.isEnded = true) (g : Goes D K B i (estep i s.st).1 j s'' N E) : Goes D K B i s j s'' ((estep i s.st).2.1 ++ N) ((estep i s.st).2.2 ++ E)
section
variable {D K : Nat} {B : List Int}
theorem Goes.trans {i s j s' k s'' N E N' E'} (h : Goes D K B i s j s' N E) (h' : Goes D K B j s' k s'' N' E') : Goes D K B i s k s'' (N ++ N') (E ++ E') := by
  induction h with
  | refl => exact h'
  | byte hi hn _ ih => rw [List.append_assoc, List.append_assoc]; exact .byte hi hn (ih h')
  | ende hn _ ih => rw [List.append_assoc, List.append_assoc]; exact .ende hn (ih h')
theorem Goes.one {i s s' c n e} (hi : i < B.length) (hc : B.getD i 0 = c) (h : (bstep D K i s c).next = some s') (hn : (bstep D K i s c).notes = n) (he : (bstep D K i s c).evs = e) : Goes D K B i s (i + 1) s' n e := by
  subst hc
  have := Goes.byte (D := D) (K := K) hi h (.refl (i + 1) s')
  rwa [List.append_nil, List.append_nil, hn, he] at this
theorem Goes.end1 {i s s' n e} (h : s.isEnded = true) (he : estep i s.st = (s', n, e)) : Goes D K B i s i s' n e := by
  have := Goes.ende (D := D) (K := K) (B := B) (i := i) h (.refl i _)
  rwa [List.append_nil, List.append_nil, he] at this
end

/-- What a scan comes to. -/
structure Sc where
  notes : List Note
  evs : List AEv
  to : Nat
  ok : Bool
def scMany (item : Nat → Sc) : Nat → Nat → Sc
  | 0, a => ⟨[], [], a, true⟩
  | n + 1, a => if (item a).ok then ⟨(item a).notes ++ (scMany item n (item a).to).notes, (item a).evs ++ (scMany item n (item a).to).evs, (scMany item n (item a).to).to, (scMany item n (item a).to).ok⟩ else item a
def slice (B : List Int) (a b : Nat) : List Int := (B.drop a).take (b - a)
/-- A pair, and what follows it. -/
def scPair (B : List Int) (ik iv : Nat → Sc) (more : List Int → Nat → Sc) (fst : Bool) (last : List Int) (a : Nat) : Sc :=
  let r := ik a
  if r.ok then
    let now := slice B a r.to
    let nn : List Note := if !fst && !ahead last now then [(r.to - 1, 7)] else []
    let v := iv r.to
    if v.ok then let m := more now v.to; ⟨r.notes ++ (nn ++ (v.notes ++ m.notes)), r.evs ++ (v.evs ++ m.evs), m.to, m.ok⟩
    else ⟨r.notes ++ (nn ++ v.notes), r.evs ++ v.evs, v.to, false⟩
  else r
def scPairs (B : List Int) (ik iv : Nat → Sc) : Nat → Bool → List Int → Nat → Sc
  | 0, _, _, a => ⟨[], [], a, true⟩
  | n + 1, fst, last, a => scPair B ik iv (scPairs B ik iv n false) fst last a
def unotes (wh : Bool) : UQ → List Int → Nat → List Note
  | _, [], _ => []
  | u, c :: r, i => (if !u.wr && ((ustep u c).wr || (wh && r.isEmpty && !udone (ustep u c))) then [(i, 6)] else []) ++ unotes wh (ustep u c) r (i + 1)
def bevs (d : Nat) : List Int → Nat → List AEv
  | [], _ => []
  | c :: r, i => ⟨2, 0, 0, 0, c, d, i⟩ :: bevs d r (i + 1)
/-- What an item has behind its head, which ends ahead of place a. -/
def scBody (B : List Int) (item : Nat → Nat → Bool → Sc) (d : Nat) (m g : Int) (a : Nat) : Sc :=
  if m = 2 ∨ m = 3 then
    let wh := decide (g ≤ ((B.length - a : Nat) : Int))
    let n := if wh then g.toNat else B.length - a
    ⟨if m = 3 then unotes wh uq0 (slice B a (a + n)) a else [], bevs d (slice B a (a + n)) a, a + n, wh⟩
  else if m = 4 ∨ m = 6 then scMany (fun a => item a (d + 1) false) (if m = 6 then 1 else g.toNat) a
  else if m = 5 then scPairs B (fun a => item a (d + 1) true) (fun a => item a (d + 1) false) g.toNat true [] a
  else ⟨[], [], a, true⟩
noncomputable def scInner (B : List Int) (item : Nat → Nat → Bool → Sc) (a d : Nat) : Sc :=
  let r := hread (B.drop a)
  if B.length ≤ a ∨ r.e = 9 then ⟨[], [], a, false⟩
  else
    let nn : List Note := if r.e = 0 then [] else [(a + r.place.toNat, r.e)]
    if r.many = 0 then ⟨nn, [], a, false⟩
    else
      let b := scBody B item d r.major r.arg (a + r.many.toNat)
      ⟨nn ++ b.notes, ⟨1, r.major, r.width, r.arg, 0, d, a + r.many.toNat - 1⟩ :: b.evs, b.to, b.ok⟩
/-- An item and its end; f: how many items in one another at most. -/
noncomputable def scItem (B : List Int) (D K : Nat) : Nat → Nat → Nat → Bool → Sc
  | 0, a, _, _ => ⟨[], [], a, false⟩
  | f + 1, a, d, key =>
    let r := scInner B (scItem B D K f) a d
    let to := if r.ok then r.to else B.length
    ⟨(if D < d ∧ a < B.length then [(a, 3)] else []) ++ (r.notes ++ (if key ∧ K < to - a then [(a + K, 4)] else [])), r.evs ++ (if r.ok then [endEv key d r.to] else []), r.to, r.ok⟩
end Go.Proofs.Ytchhbcmkhbfpoaa
