
/- Package head: plain numbers. -/
import Derived.Test.YtimmgajeflghlaaFloatK
import Derived.Test.YtimmgajeflghlaaNum
namespace Go.Proofs.Ytimmgajeflghlaa

/-- How many bytes a number needs as an argument. -/
def leastW (a : Int) : Int := if a < 24 then 0 else if a < 256 then 1 else if a < 65536 then 2 else if a < 4294967296 then 4 else 8
/-- A reader's state. -/
structure HQ where
  major : Int
  width : Int
  arg : Int
  left : Int
  opn : Bool
  wrong : Int
def hcells (q : HQ) : Array Value := #[.int .i64 q.major, .int .i64 q.width, .int .u64 q.arg, .int .i64 q.left, .bool q.opn, .int .i64 q.wrong]
def hq0 : HQ := ⟨0, 0, 0, 0, false, 0⟩
/-- How many bytes the info tells of. -/
def hwid (i : Int) : Int := if i = 24 then 1 else if i = 25 then 2 else if i = 26 then 4 else if i = 27 then 8 else 0
/-- What is wrong with a first byte. -/
def hbad (m i : Int) : Int := if i < 28 then 0 else if i = 31 ∧ 2 ≤ m ∧ m ≤ 5 then 5 else 2
def hbeg (m i : Int) : HQ := if 28 ≤ i then ⟨m, 0, 0, 0, true, hbad m i⟩ else if i < 24 then ⟨m, 0, i, 0, true, 0⟩ else ⟨m, hwid i, 0, hwid i, true, 0⟩
def hbegin (c : Int) : HQ := hbeg (c / 32) (c % 32)
def hfollow (q : HQ) (c : Int) : HQ :=
  ⟨q.major, q.width, (q.arg * 256 + c) % 18446744073709551616, q.left - 1, q.opn, if q.major = 7 ∧ q.width = 1 ∧ (q.arg * 256 + c) % 18446744073709551616 < 32 then 2 else q.wrong⟩
open Classical in
noncomputable def fshort (W a : Int) : Bool := decide (IsShort W a.toNat)
noncomputable def hshort (m W a : Int) : Bool := if m = 7 ∧ 1 < W then fshort W a else W == leastW a
/-- A step: the state behind it, whether the head ended, the error. -/
def hmid (q : HQ) (c : Int) : HQ := if q.wrong ≠ 0 then q else if q.opn = true then hfollow q c else hbegin c
def HQ.more (q : HQ) : Prop := q.wrong ≠ 0 ∨ 0 < q.left
instance (q : HQ) : Decidable q.more := inferInstanceAs (Decidable (_ ∨ _))
def hstep (q : HQ) (c : Int) : HQ := if (hmid q c).more then hmid q c else { hmid q c with opn := false }
def hdone (q : HQ) (c : Int) : Bool := !decide (hmid q c).more
noncomputable def herr (q : HQ) (c : Int) : Int := if (hmid q c).more then (hmid q c).wrong else if hshort (hmid q c).major (hmid q c).width (hmid q c).arg then 0 else 5
/-- A state in which a step can be taken. -/
def HOk (q : HQ) : Prop := 0 ≤ q.arg ∧ q.arg < 18446744073709551616 ∧ 0 ≤ q.left ∧ q.left ≤ 8

/-- The head at the front of a list, as the document's answer tells it: major type, width, argument, how many bytes, the wrong one's place, the error. -/
structure HR where
  major : Int
  width : Int
  arg : Int
  many : Int
  place : Int
  e : Int
def hnone (place e : Int) : HR := ⟨0, 0, 0, 0, place, e⟩
def harg (L : List Int) (W : Int) : Int := big 18446744073709551616 (pad (L.drop 1) W.toNat)
noncomputable def hlong (m W a : Int) : HR := ⟨m, W, a, 1 + W, if hshort m W a then -1 else W, if hshort m W a then 0 else 5⟩
noncomputable def hread (L : List Int) : HR :=
  if L.length = 0 then hnone 0 9
  else if 28 ≤ L.getD 0 0 % 32 then hnone 0 (hbad (L.getD 0 0 / 32) (L.getD 0 0 % 32))
  else if L.getD 0 0 % 32 < 24 then ⟨L.getD 0 0 / 32, 0, L.getD 0 0 % 32, 1, -1, 0⟩
  else if (L.length : Int) ≤ hwid (L.getD 0 0 % 32) then hnone L.length 9
  else if L.getD 0 0 / 32 = 7 ∧ hwid (L.getD 0 0 % 32) = 1 ∧ harg L (hwid (L.getD 0 0 % 32)) < 32 then hnone 1 2
  else hlong (L.getD 0 0 / 32) (hwid (L.getD 0 0 % 32)) (harg L (hwid (L.getD 0 0 % 32)))
theorem hwid_of (i : Int) (h : 24 ≤ i) (h' : i < 28) : (i = 24 ∧ hwid i = 1) ∨ (i = 25 ∧ hwid i = 2) ∨ (i = 26 ∧ hwid i = 4) ∨ (i = 27 ∧ hwid i = 8) := by
  have : i = 24 ∨ i = 25 ∨ i = 26 ∨ i = 27 := by omega
  rcases this with rfl | rfl | rfl | rfl <;> simp [hwid]
theorem hbad_ne {m i : Int} (h : 28 ≤ i) : hbad m i = 5 ∨ hbad m i = 2 := by
  unfold hbad
  rw [if_neg (by omega)]
  split <;> simp
open Classical in
theorem BPost.eq {P : Prop} {e : Ending} (h : BPost P e) : e = .returned (.bool (decide P)) := by
  obtain ⟨b, rfl, hb⟩ := h
  by_cases hp : P
  · rw [hb.2 hp]; simp [hp]
  · have : b = false := by cases b <;> simp_all
    rw [this]; simp [hp]
end Go.Proofs.Ytimmgajeflghlaa
