/- Texts in UTF-8: the plain functions. -/
import Derived.Test.YtabmckjlmpajoaaDoorKAA
namespace Go.Proofs.YtabmckjlmpajoaaDoor
open Go.RowKit

/-- How far a sign has come: bytes to come, the bounds of the next one; gone wrong. -/
structure UQ where
  left : Nat
  lo : Int
  hi : Int
  wr : Bool
def uq0 : UQ := ⟨0, 0, 0, false⟩
def ulo (c : Int) : Int := if c = 224 then 160 else if c = 240 then 144 else 128
def uhi (c : Int) : Int := if c = 237 then 159 else if c = 244 then 143 else 191
/-- How many bytes follow a sign's first one; none: no sign begins so. -/
def umore (c : Int) : Option Nat := if 240 ≤ c ∧ c ≤ 244 then some 3 else if 224 ≤ c ∧ c ≤ 239 then some 2 else if 194 ≤ c ∧ c ≤ 223 then some 1 else if c ≤ 127 then some 0 else none
def ustep (q : UQ) (c : Int) : UQ :=
  if q.wr then q else if q.left = 0 then (match umore c with
    | some n => ⟨n, ulo c, uhi c, false⟩
    | none => { q with wr := true })
  else if c < q.lo ∨ q.hi < c then { q with wr := true } else ⟨q.left - 1, 128, 191, false⟩
def udone (q : UQ) : Bool := !q.wr && q.left == 0
def ucells (q : UQ) : Array Value := #[.int .i64 q.left, .int .u8 q.lo, .int .u8 q.hi, .bool q.wr]

def urun : UQ → List Int → UQ
  | q, [] => q
  | q, c :: r => urun (ustep q c) r
/-- The place of the first byte that can't stand there, counted from i; -1: none. -/
def uat : UQ → List Int → Nat → Int
  | _, [], _ => -1
  | q, c :: r, i => if (ustep q c).wr then i else uat (ustep q c) r (i + 1)
def uok (q : UQ) (l : List Int) : Bool := udone (urun q l)
/-- The bytes of a text. -/
def sbytes (s : ByteArray) : List Int := s.data.toList.map fun b => (b.toNat : Int)
def sb (s : ByteArray) (k : Nat) : Int := (sbytes s).getD k 0
theorem length_sbytes (s : ByteArray) : (sbytes s).length = s.size := by simp [sbytes]
theorem sb_range (s : ByteArray) (k : Nat) : 0 ≤ sb s k ∧ sb s k < 256 := by
  unfold sb sbytes
  rw [List.getD_eq_getElem?_getD, List.getElem?_map]
  cases s.data.toList[k]? with
  | none => simp
  | some b => have := b.toNat_lt; simp; omega
theorem sb_eq (s : ByteArray) (k : Nat) (h : k < s.size) : ((s[k]'h).toNat : Int) = sb s k := by
  have hl : k < s.data.toList.length := by simpa using h
  unfold sb sbytes
  rw [List.getD_eq_getElem?_getD, List.getElem?_map, List.getElem?_eq_getElem hl]
  rfl
/-- A text's byte is read. -/
theorem run_sb {P : Program} {t : TypeId} (ht : P.underlying t = some .string) (w : World) (s : ByteArray) (k : Nat) (h : k < s.size) (i : Int) (hi : i = k) : (Instr.index t (.string s) (.int .i64 i)).run P w = .ok (.int .u8 (sb s k)) w := by
  subst hi
  rw [run_index_string w t s .i64 k ht, dif_pos (by omega)]
  show Result.ok (Value.int .u8 ((s[(k : Int).toNat]'_).toNat : Int)) w = _
  rw [show ((s[(k : Int).toNat]'(by omega)).toNat : Int) = ((s[k]'h).toNat : Int) from rfl, sb_eq]
end Go.Proofs.YtabmckjlmpajoaaDoor
