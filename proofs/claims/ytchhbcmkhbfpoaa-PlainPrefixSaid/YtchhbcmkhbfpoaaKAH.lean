/- Floats: any width; whether a form is the shortest one. -/
import Derived.Test.YtchhbcmkhbfpoaaKAG
import Derived.Laws.BitsAllLaws
import Derived.Laws.Shifts
import Derived.Test.YtchhbcmkhbfpoaaRows
import Derived.Test.YtchhbcmkhbfpoaaKAA
namespace Go.Proofs.Ytchhbcmkhbfpoaa
open Go.RowKit
def WPost (W : Int) (x : Nat) (e : Ending) : Prop := (∃ z : Nat, e = .returned (.tuple #[.int .u64 z, .bool true]) ∧ Wd W x z) ∨ (e = .returned (.tuple #[.int .u64 0, .bool false]) ∧ ∀ z, ¬ Wd W x z)
theorem no_half {x : Nat} (h : 65536 ≤ x) (z : Nat) : ¬ Wd 2 x z := by
  rintro (⟨_, a⟩ | ⟨a, _⟩ | ⟨a, _⟩)
  · have := a.1; omega
  · omega
  · omega
theorem no_single {x : Nat} (h : 4294967296 ≤ x) (z : Nat) : ¬ Wd 4 x z := by
  rintro (⟨a, _⟩ | ⟨_, a⟩ | ⟨a, _⟩)
  · omega
  · have := a.1; omega
  · omega
theorem no_other {W : Int} {x : Nat} (h2 : W ≠ 2) (h4 : W ≠ 4) (h8 : W ≠ 8) (z : Nat) : ¬ Wd W x z := by
  rintro (⟨a, _⟩ | ⟨a, _⟩ | ⟨a, _⟩) <;> omega
theorem float_Widen_all (x : Nat) (hx : x < 2 ^ 64) (W : Int) (w : World) :
    Calls Try.prog 55 #[.int .u64 x, .int .i64 W] w fun e w' => WPost W x e ∧ Below w.heap.size w w' := by
  by_cases h2 : W = 2
  · subst h2
    by_cases h : x < 2 ^ (1 + 5 + 10)
    · exact (float_Widen_half x h w).mono fun e w' ⟨z, a, b, c⟩ => ⟨Or.inl ⟨z, a, Or.inl ⟨rfl, b⟩⟩, c⟩
    · exact (float_Widen_half_not x hx (by omega) w).mono fun e w' ⟨a, b⟩ => ⟨Or.inr ⟨a, no_half (by omega)⟩, b⟩
  by_cases h4 : W = 4
  · subst h4
    by_cases h : x < 2 ^ (1 + 8 + 23)
    · exact (float_Widen_single x h w).mono fun e w' ⟨z, a, b, c⟩ => ⟨Or.inl ⟨z, a, Or.inr (Or.inl ⟨rfl, b⟩)⟩, c⟩
    · exact (float_Widen_single_not x hx (by omega) w).mono fun e w' ⟨a, b⟩ => ⟨Or.inr ⟨a, no_single (by omega)⟩, b⟩
  by_cases h8 : W = 8
  · subst h8
    exact (float_Widen_double x hx w).mono fun e w' ⟨z, a, b, c⟩ => ⟨Or.inl ⟨z, a, Or.inr (Or.inr ⟨rfl, b⟩)⟩, c⟩
  · exact (float_Widen_other x W h2 h4 h8 w).mono fun e w' ⟨a, b⟩ => ⟨Or.inr ⟨a, no_other h2 h4 h8⟩, b⟩
theorem ref_Widen_all (x : Nat) (hx : x < 2 ^ 64) (W : Int) (w : World) :
    Calls Try.prog 32 #[.int .u64 x, .int .i64 W] w fun e w' => WPost W x e ∧ Below w.heap.size w w' := by
  by_cases h2 : W = 2
  · subst h2
    by_cases h : x < 2 ^ (1 + 5 + 10)
    · exact (ref_Widen_half x h w).mono fun e w' ⟨⟨z, a, b⟩, c⟩ => ⟨Or.inl ⟨z, a, Or.inl ⟨rfl, b⟩⟩, c⟩
    · exact (ref_Widen_half_not x (by omega) w).mono fun e w' ⟨a, b⟩ => ⟨Or.inr ⟨a, no_half (by omega)⟩, b⟩
  by_cases h4 : W = 4
  · subst h4
    by_cases h : x < 2 ^ (1 + 8 + 23)
    · exact (ref_Widen_single x h w).mono fun e w' ⟨⟨z, a, b⟩, c⟩ => ⟨Or.inl ⟨z, a, Or.inr (Or.inl ⟨rfl, b⟩)⟩, c⟩
    · exact (ref_Widen_single_not x (by omega) w).mono fun e w' ⟨a, b⟩ => ⟨Or.inr ⟨a, no_single (by omega)⟩, b⟩
  by_cases h8 : W = 8
  · subst h8
    exact (ref_Widen_double x hx w).mono fun e w' ⟨⟨z, a, b⟩, c⟩ => ⟨Or.inl ⟨z, a, Or.inr (Or.inr ⟨rfl, b⟩)⟩, c⟩
  · exact (ref_Widen_other x W h2 h4 h8 w).mono fun e w' ⟨a, b⟩ => ⟨Or.inr ⟨a, no_other h2 h4 h8⟩, b⟩

def IsShort (W : Int) (x : Nat) : Prop := ∃ z v : Nat, Wd W x z ∧ Shortest z x v ∧ (v : Int) = W
def BPost (P : Prop) (e : Ending) : Prop := ∃ b : Bool, e = .returned (.bool b) ∧ (b = true ↔ P)
theorem b_yes {P : Prop} (h : P) : BPost P (.returned (.bool true)) := ⟨true, rfl, by simp [h]⟩
theorem b_no {P : Prop} (h : ¬ P) : BPost P (.returned (.bool false)) := ⟨false, rfl, by simp [h]⟩
set_option maxHeartbeats 1000000 in
theorem float_Short (x : Nat) (hx : x < 2 ^ 64) (W : Int) (w : World) :
    Calls Try.prog 80 #[.int .u64 x, .int .i64 W] w fun e w' => BPost (IsShort W x) e ∧ Below w.heap.size w w' := by
  have HW := Lib.hid (float_Widen_all x hx W)
  generalize hxl : (x : Int) = xl at *
  have HX := Lib.hid (fun _ : Unit => hxl)
  clear hx hxl
  go_enter Try.func80, Try.ntmps80
  go_wp2_with fail
  refine (HW.out _).mono ?_
  rintro e w1 ⟨⟨z, rfl, hz⟩ | ⟨rfl, hz⟩, S1⟩
  · have HS := Lib.hid (float_Shortest z (wd_lt hz))
    have HZ := Lib.hid (fun _ : Unit => hz)
    have HS1 := Lib.hid S1
    clear hz S1
    generalize (z : Int) = zl at *
    go_wp2_with fail
    refine (HS.out _).mono ?_
    rintro e w2 ⟨⟨y, v, rfl, hs⟩, S2⟩
    have HS2 := Lib.hid (HS1.out.trans (S2.mono HS1.out.size))
    clear S2
    by_cases hyx : y = x
    · have e1 : (y : Int) = xl := by rw [hyx]; exact HX.out ()
      rw [e1]
      by_cases hvw : (v : Int) = W
      · have HR := Lib.hid (show IsShort W x from ⟨z, v, HZ.out (), hyx ▸ hs, hvw⟩)
        rw [hvw]
        clear hs hyx e1 hvw
        go_wp2_with fail
        refine bodyPost_ret (results_tmp rfl _ _ _) rfl ?_
        exact ⟨b_yes HR.out, HS2.out⟩
      · have HR : Hid (¬ IsShort W x) := Lib.hid (by
          rintro ⟨z', v', a, b, c⟩
          have := wd_fun a (HZ.out ())
          subst this
          have := shortest_fun b hs
          omega)
        have hvf : ((v : Int) == W) = false := by simp [hvw]
        clear hs hyx e1 hvw
        generalize (v : Int) = vl at *
        go_wp2_with fail
        refine bodyPost_ret (results_tmp rfl _ _ _) rfl ?_
        exact ⟨b_no HR.out, HS2.out⟩
    · have HR : Hid (¬ IsShort W x) := Lib.hid (by
        rintro ⟨z', v', a, b, c⟩
        have := wd_fun a (HZ.out ())
        subst this
        exact hyx (shortest_fun hs b).1)
      have hyf : ((y : Int) == xl) = false := by
        have := HX.out ()
        simp
        omega
      clear hs hyx
      generalize (v : Int) = vl at *
      generalize (y : Int) = yl at *
      go_wp2_with fail
      refine bodyPost_ret (results_tmp rfl _ _ _) rfl ?_
      exact ⟨b_no HR.out, HS2.out⟩
  · have HR : Hid (¬ IsShort W x) := Lib.hid (by
      rintro ⟨z', v', a, b, c⟩
      exact hz z' a)
    clear hz
    go_wp2_with fail
    refine bodyPost_ret (results_tmp rfl _ _ _) rfl ?_
    exact ⟨b_no HR.out, S1⟩
set_option maxHeartbeats 1000000 in
theorem ref_Short (x : Nat) (hx : x < 2 ^ 64) (W : Int) (w : World) :
    Calls Try.prog 43 #[.int .u64 x, .int .i64 W] w fun e w' => BPost (IsShort W x) e ∧ Below w.heap.size w w' := by
  have HW := Lib.hid (ref_Widen_all x hx W)
  generalize hxl : (x : Int) = xl at *
  have HX := Lib.hid (fun _ : Unit => hxl)
  clear hx hxl
  go_enter Try.func43, Try.ntmps43
  go_wp2_with fail
  refine (HW.out _).mono ?_
  rintro e w1 ⟨⟨z, rfl, hz⟩ | ⟨rfl, hz⟩, S1⟩
  · have HS := Lib.hid (ref_Shortest z (wd_lt hz))
    have HZ := Lib.hid (fun _ : Unit => hz)
    have HS1 := Lib.hid S1
    clear hz S1
    generalize (z : Int) = zl at *
    go_wp2_with fail
    refine (HS.out _).mono ?_
    rintro e w2 ⟨⟨y, v, rfl, hs⟩, S2⟩
    have HS2 := Lib.hid (HS1.out.trans (S2.mono HS1.out.size))
    clear S2
    by_cases hyx : y = x
    · have e1 : (y : Int) = xl := by rw [hyx]; exact HX.out ()
      rw [e1]
      by_cases hvw : (v : Int) = W
      · have HR := Lib.hid (show IsShort W x from ⟨z, v, HZ.out (), hyx ▸ hs, hvw⟩)
        rw [hvw]
        clear hs hyx e1 hvw
        go_wp2_with fail
        refine bodyPost_ret (results_tmp rfl _ _ _) rfl ?_
        exact ⟨b_yes HR.out, HS2.out⟩
      · have HR : Hid (¬ IsShort W x) := Lib.hid (by
          rintro ⟨z', v', a, b, c⟩
          have := wd_fun a (HZ.out ())
          subst this
          have := shortest_fun b hs
          omega)
        have hvf : ((v : Int) == W) = false := by simp [hvw]
        clear hs hyx e1 hvw
        generalize (v : Int) = vl at *
        go_wp2_with fail
        refine bodyPost_ret (results_tmp rfl _ _ _) rfl ?_
        exact ⟨b_no HR.out, HS2.out⟩
    · have HR : Hid (¬ IsShort W x) := Lib.hid (by
        rintro ⟨z', v', a, b, c⟩
        have := wd_fun a (HZ.out ())
        subst this
        exact hyx (shortest_fun hs b).1)
      have hyf : ((y : Int) == xl) = false := by
        have := HX.out ()
        simp
        omega
      clear hs hyx
      generalize (v : Int) = vl at *
      generalize (y : Int) = yl at *
      go_wp2_with fail
      refine bodyPost_ret (results_tmp rfl _ _ _) rfl ?_
      exact ⟨b_no HR.out, HS2.out⟩
  · have HR : Hid (¬ IsShort W x) := Lib.hid (by
      rintro ⟨z', v', a, b, c⟩
      exact hz z' a)
    clear hz
    go_wp2_with fail
    refine bodyPost_ret (results_tmp rfl _ _ _) rfl ?_
    exact ⟨b_no HR.out, S1⟩
end Go.Proofs.Ytchhbcmkhbfpoaa

/- Plain numbers: the number of bytes, the greatest one first. -/
namespace Go.Proofs.Ytchhbcmkhbfpoaa

/-- The number of the bytes l modulo M. -/
def big (M : Int) (l : List Int) : Int := l.foldl (fun x c => (x * 256 + c) % M) 0
def ByteL (l : List Int) : Prop := ∀ c ∈ l, 0 ≤ c ∧ c < 256
/-- The first n, missing ones 0. -/
def pad (l : List Int) (n : Nat) : List Int := (List.range n).map fun i => l.getD i 0

theorem big_nil (M : Int) : big M [] = 0 := rfl
theorem big_snoc (M : Int) (l : List Int) (c : Int) : big M (l ++ [c]) = (big M l * 256 + c) % M := by simp [big]
theorem big_range (M : Int) (l : List Int) (hM : 0 < M) : 0 ≤ big M l ∧ big M l < M := by
  rcases List.eq_nil_or_concat l with rfl | ⟨a, c, rfl⟩
  · simp [big, hM]
  · rw [List.concat_eq_append, big_snoc]
    exact ⟨Int.emod_nonneg _ (by omega), Int.emod_lt_of_pos _ hM⟩
theorem take_snoc (l : List Int) (k : Nat) (h : k < l.length) : l.take (k + 1) = l.take k ++ [l.getD k 0] := by
  rw [List.take_succ_eq_append_getElem h]; simp [List.getD, h]
theorem big_take (M : Int) (l : List Int) (k : Nat) (h : k < l.length) : big M (l.take (k + 1)) = (big M (l.take k) * 256 + l.getD k 0) % M := by
  rw [take_snoc l k h, big_snoc]
theorem ByteL.get {l : List Int} (h : ByteL l) (k : Nat) : 0 ≤ l.getD k 0 ∧ l.getD k 0 < 256 := by
  by_cases hk : k < l.length
  · have : l.getD k 0 = l[k] := by simp [List.getD, hk]
    rw [this]; exact h _ (List.getElem_mem _)
  · have : l.getD k 0 = 0 := by simp [List.getD, List.getElem?_eq_none (Nat.le_of_not_lt hk)]
    rw [this]; decide
theorem ByteL.pad {l : List Int} (h : ByteL l) (n : Nat) : ByteL (pad l n) := by
  intro c hc
  simp only [Proofs.Ytchhbcmkhbfpoaa.pad, List.mem_map] at hc
  obtain ⟨i, _, rfl⟩ := hc
  exact h.get i
theorem length_pad (l : List Int) (n : Nat) : (pad l n).length = n := by simp [pad]
theorem pad_succ (l : List Int) (n : Nat) : pad l (n + 1) = pad l n ++ [l.getD n 0] := by simp [pad, List.range_succ]
theorem pad_all (l : List Int) : pad l l.length = l := by
  apply List.ext_getElem
  · simp [pad]
  · intro i h1 h2
    simp [pad, List.getD, h2]
theorem big_pad (M : Int) (l : List Int) (n : Nat) : big M (pad l (n + 1)) = (big M (pad l n) * 256 + l.getD n 0) % M := by
  rw [pad_succ, big_snoc]

theorem or_low (x c : Int) (M : Int) (hM : 0 < M) (hd : (256 : Int) ∣ M) (_hx : 0 ≤ x) (hc : 0 ≤ c) (hc' : c < 256) :
    (((x * 256 % M).toNat ||| c.toNat : Nat) : Int) = (x * 256 + c) % M := by
  obtain ⟨m, rfl⟩ := hd
  have hm : 0 < m := by omega
  have e1 : x * 256 % (256 * m) = 256 * (x % m) := by rw [Int.mul_comm x, Int.mul_emod_mul_of_pos _ _ (by decide)]
  have h0 : 0 ≤ x % m := Int.emod_nonneg _ (by omega)
  have h1 : x % m < m := Int.emod_lt_of_pos _ hm
  have e2 : (x * 256 + c) % (256 * m) = 256 * (x % m) + c := by
    have hx' : x * 256 + c = (256 * (x % m) + c) + (256 * m) * (x / m) := by
      have := Int.emod_add_mul_ediv x m
      rw [Int.mul_assoc]
      omega
    rw [hx', Int.add_mul_emod_self_left, Int.emod_eq_of_lt (by omega)]
    omega
  rw [e1, e2]
  obtain ⟨X, hX⟩ := Int.eq_ofNat_of_zero_le h0
  obtain ⟨C, rfl⟩ := Int.eq_ofNat_of_zero_le hc
  rw [hX]
  have hC : C < 2 ^ 8 := by omega
  have e3 : (256 * (X : Int)).toNat = 2 ^ 8 * X := by omega
  rw [e3, Int.toNat_natCast, ← Nat.two_pow_add_eq_or_of_lt hC]
  omega

theorem or_step32 (x c : Int) (hx : 0 ≤ x) (hc : 0 ≤ c ∧ c < 256) : bits BinOp.or IntKind.u32 (x * 256 % 4294967296) c = (x * 256 + c) % 4294967296 := by
  rw [u32_or _ _ (by omega) (by omega) hc.1 (by omega)]
  exact or_low x c _ (by decide) ⟨16777216, by decide⟩ hx hc.1 hc.2
theorem or_step64 (x c : Int) (hx : 0 ≤ x) (hc : 0 ≤ c ∧ c < 256) : bits BinOp.or IntKind.u64 (x * 256 % 18446744073709551616) c = (x * 256 + c) % 18446744073709551616 := by
  rw [u64_or _ _ (by omega) (by omega) hc.1 (by omega)]
  exact or_low x c _ (by decide) ⟨72057594037927936, by decide⟩ hx hc.1 hc.2
theorem mod_step (x c M : Int) : (x * 256 % M + c) % M = (x * 256 + c) % M := by rw [Int.emod_add_emod]
end Go.Proofs.Ytchhbcmkhbfpoaa

/- Package head: plain numbers. -/
namespace Go.Proofs.Ytchhbcmkhbfpoaa

/-- How many bytes a number needs as an argument. -/
def leastW (a : Int) : Int := if a < 24 then 0 else if a < 256 then 1 else if a < 65536 then 2 else if a < 4294967296 then 4 else 8
/-- A reader's state. -/
structure HQ where
  major : Int
  width : Int
  arg : Int
  left : Int
  opn : Bool
  wrong : Int
def hcells (q : HQ) : Array Value := #[.int .i64 q.major, .int .i64 q.width, .int .u64 q.arg, .int .i64 q.left, .bool q.opn, .int .i64 q.wrong]
def hq0 : HQ := ⟨0, 0, 0, 0, false, 0⟩
/-- How many bytes the info tells of. -/
def hwid (i : Int) : Int := if i = 24 then 1 else if i = 25 then 2 else if i = 26 then 4 else if i = 27 then 8 else 0
/-- What is wrong with a first byte. -/
def hbad (m i : Int) : Int := if i < 28 then 0 else if i = 31 ∧ 2 ≤ m ∧ m ≤ 5 then 5 else 2
def hbeg (m i : Int) : HQ := if 28 ≤ i then ⟨m, 0, 0, 0, true, hbad m i⟩ else if i < 24 then ⟨m, 0, i, 0, true, 0⟩ else ⟨m, hwid i, 0, hwid i, true, 0⟩
def hbegin (c : Int) : HQ := hbeg (c / 32) (c % 32)
def hfollow (q : HQ) (c : Int) : HQ :=
  ⟨q.major, q.width, (q.arg * 256 + c) % 18446744073709551616, q.left - 1, q.opn, if q.major = 7 ∧ q.width = 1 ∧ (q.arg * 256 + c) % 18446744073709551616 < 32 then 2 else q.wrong⟩
open Classical in
noncomputable def fshort (W a : Int) : Bool := decide (IsShort W a.toNat)
noncomputable def hshort (m W a : Int) : Bool := if m = 7 ∧ 1 < W then fshort W a else W == leastW a
/-- A step: the state behind it, whether the head ended, the error. -/
def hmid (q : HQ) (c : Int) : HQ := if q.wrong ≠ 0 then q else if q.opn = true then hfollow q c else hbegin c
def HQ.more (q : HQ) : Prop := q.wrong ≠ 0 ∨ 0 < q.left
instance (q : HQ) : Decidable q.more := inferInstanceAs (Decidable (_ ∨ _))
def hstep (q : HQ) (c : Int) : HQ := if (hmid q c).more then hmid q c else { hmid q c with opn := false }
def hdone (q : HQ) (c : Int) : Bool := !decide (hmid q c).more
noncomputable def herr (q : HQ) (c : Int) : Int := if (hmid q c).more then (hmid q c).wrong else if hshort (hmid q c).major (hmid q c).width (hmid q c).arg then 0 else 5
/-- A state in which a step can be taken. -/
def HOk (q : HQ) : Prop := 0 ≤ q.arg ∧ q.arg < 18446744073709551616 ∧ 0 ≤ q.left ∧ q.left ≤ 8

/-- The head at the front of a list, as the document's answer tells it: major type, width, argument, how many bytes, the wrong one's place, the error. -/
structure HR where
  major : Int
  width : Int
  arg : Int
  many : Int
  place : Int
  e : Int
def hnone (place e : Int) : HR := ⟨0, 0, 0, 0, place, e⟩
def harg (L : List Int) (W : Int) : Int := big 18446744073709551616 (pad (L.drop 1) W.toNat)
noncomputable def hlong (m W a : Int) : HR := ⟨m, W, a, 1 + W, if hshort m W a then -1 else W, if hshort m W a then 0 else 5⟩
noncomputable def hread (L : List Int) : HR :=
  if L.length = 0 then hnone 0 9
  else if 28 ≤ L.getD 0 0 % 32 then hnone 0 (hbad (L.getD 0 0 / 32) (L.getD 0 0 % 32))
  else if L.getD 0 0 % 32 < 24 then ⟨L.getD 0 0 / 32, 0, L.getD 0 0 % 32, 1, -1, 0⟩
  else if (L.length : Int) ≤ hwid (L.getD 0 0 % 32) then hnone L.length 9
  else if L.getD 0 0 / 32 = 7 ∧ hwid (L.getD 0 0 % 32) = 1 ∧ harg L (hwid (L.getD 0 0 % 32)) < 32 then hnone 1 2
  else hlong (L.getD 0 0 / 32) (hwid (L.getD 0 0 % 32)) (harg L (hwid (L.getD 0 0 % 32)))
theorem hwid_of (i : Int) (h : 24 ≤ i) (h' : i < 28) : (i = 24 ∧ hwid i = 1) ∨ (i = 25 ∧ hwid i = 2) ∨ (i = 26 ∧ hwid i = 4) ∨ (i = 27 ∧ hwid i = 8) := by
  have : i = 24 ∨ i = 25 ∨ i = 26 ∨ i = 27 := by omega
  rcases this with rfl | rfl | rfl | rfl <;> simp [hwid]
theorem hbad_ne {m i : Int} (h : 28 ≤ i) : hbad m i = 5 ∨ hbad m i = 2 := by
  unfold hbad
  rw [if_neg (by omega)]
  split <;> simp
open Classical in
theorem BPost.eq {P : Prop} {e : Ending} (h : BPost P e) : e = .returned (.bool (decide P)) := by
  obtain ⟨b, rfl, hb⟩ := h
  by_cases hp : P
  · rw [hb.2 hp]; simp [hp]
  · have : b = false := by cases b <;> simp_all
    rw [this]; simp [hp]
end Go.Proofs.Ytchhbcmkhbfpoaa

/- Package head: a walk's states, plainly. -/
namespace Go.Proofs.Ytchhbcmkhbfpoaa

/-- The state behind the first k bytes of L, as long as no head has ended. -/
def HSt (L : List Int) (k : Nat) (q : HQ) : Prop :=
  (k = 0 ∧ q = hq0) ∨
  (1 ≤ k ∧ k ≤ L.length ∧ 24 ≤ L.getD 0 0 % 32 ∧ L.getD 0 0 % 32 < 28 ∧ (k : Int) ≤ hwid (L.getD 0 0 % 32) ∧
    q = ⟨L.getD 0 0 / 32, hwid (L.getD 0 0 % 32), big 18446744073709551616 (pad (L.drop 1) (k - 1)), hwid (L.getD 0 0 % 32) - k + 1, true, 0⟩)
theorem HSt.ok {L : List Int} {k : Nat} {q : HQ} (h : HSt L k q) : HOk q ∧ (q.wrong = 0 → q.opn = true → 0 < q.left) := by
  rcases h with ⟨_, rfl⟩ | ⟨h1, _, h2, h3, h4, rfl⟩
  · exact ⟨by unfold HOk hq0; simp, fun _ h => by cases h⟩
  · have hr := big_range 18446744073709551616 (pad (L.drop 1) (k - 1)) (by decide)
    have hw : hwid (L.getD 0 0 % 32) ≤ 8 := by rcases hwid_of _ h2 h3 with ⟨_, h⟩ | ⟨_, h⟩ | ⟨_, h⟩ | ⟨_, h⟩ <;> omega
    unfold HOk
    dsimp only
    exact ⟨⟨hr.1, hr.2, by omega, by omega⟩, fun _ _ => by omega⟩
theorem leastW_small {a : Int} (h : a < 24) : leastW a = 0 := by unfold leastW; rw [if_pos h]
theorem hread_nil {L : List Int} (h : L.length = 0) : hread L = hnone 0 9 := by unfold hread; rw [if_pos h]
theorem hread_bad {L : List Int} (h : 0 < L.length) (hi : 28 ≤ L.getD 0 0 % 32) : hread L = hnone 0 (hbad (L.getD 0 0 / 32) (L.getD 0 0 % 32)) := by
  unfold hread; rw [if_neg (by omega), if_pos hi]
theorem hread_small {L : List Int} (h : 0 < L.length) (hi : L.getD 0 0 % 32 < 24) : hread L = ⟨L.getD 0 0 / 32, 0, L.getD 0 0 % 32, 1, -1, 0⟩ := by
  unfold hread; rw [if_neg (by omega), if_neg (by omega), if_pos hi]
theorem hread_cut {L : List Int} (h : 0 < L.length) (hi : 24 ≤ L.getD 0 0 % 32) (hi' : L.getD 0 0 % 32 < 28) (hl : (L.length : Int) ≤ hwid (L.getD 0 0 % 32)) : hread L = hnone L.length 9 := by
  unfold hread; rw [if_neg (by omega), if_neg (by omega), if_neg (by omega), if_pos hl]
theorem hread_simple {L : List Int} (h : 0 < L.length) (hi : 24 ≤ L.getD 0 0 % 32) (hi' : L.getD 0 0 % 32 < 28) (hl : ¬ (L.length : Int) ≤ hwid (L.getD 0 0 % 32))
    (hs : L.getD 0 0 / 32 = 7 ∧ hwid (L.getD 0 0 % 32) = 1 ∧ harg L (hwid (L.getD 0 0 % 32)) < 32) : hread L = hnone 1 2 := by
  unfold hread; rw [if_neg (by omega), if_neg (by omega), if_neg (by omega), if_neg hl, if_pos hs]
theorem hread_whole {L : List Int} (h : 0 < L.length) (hi : 24 ≤ L.getD 0 0 % 32) (hi' : L.getD 0 0 % 32 < 28) (hl : ¬ (L.length : Int) ≤ hwid (L.getD 0 0 % 32))
    (hs : ¬ (L.getD 0 0 / 32 = 7 ∧ hwid (L.getD 0 0 % 32) = 1 ∧ harg L (hwid (L.getD 0 0 % 32)) < 32)) :
    hread L = hlong (L.getD 0 0 / 32) (hwid (L.getD 0 0 % 32)) (harg L (hwid (L.getD 0 0 % 32))) := by
  unfold hread; rw [if_neg (by omega), if_neg (by omega), if_neg (by omega), if_neg hl, if_neg hs]
theorem HSt.last {L : List Int} {q : HQ} (h : HSt L L.length q) : hread L = hnone L.length 9 := by
  rcases h with ⟨h0, rfl⟩ | ⟨h1, _, h2, h3, h4, _⟩
  · rw [hread_nil h0, h0]; rfl
  · exact hread_cut h1 h2 h3 h4
/-- What one more byte comes to. -/
inductive HNext (L : List Int) (k : Nat) (q : HQ) : Bool → Int → HQ → Prop
  | bad (e : Int) (q' : HQ) (he : e ≠ 0) (h : hread L = hnone k e) : HNext L k q false e q'
  | long (q' : HQ) (h : (hread L).place = k) (he : (hread L).e = 5) : HNext L k q true 5 q'
  | whole (q' : HQ) (h : hread L = ⟨q'.major, q'.width, q'.arg, k + 1, -1, 0⟩) (ho : q'.opn = false) : HNext L k q true 0 q'
  | more (q' : HQ) (h : HSt L (k + 1) q') : HNext L k q false 0 q'
theorem HSt.step {L : List Int} {k : Nat} {q : HQ} (h : HSt L k q) (hk : k < L.length) : HNext L k q (hdone q (L.getD k 0)) (herr q (L.getD k 0)) (hstep q (L.getD k 0)) := by
  unfold hdone herr hstep
  rcases h with ⟨rfl, rfl⟩ | ⟨h1, hkl, h2, h3, h4, rfl⟩
  · have e0 : hmid hq0 (L.getD 0 0) = hbeg (L.getD 0 0 / 32) (L.getD 0 0 % 32) := rfl
    rw [e0]
    by_cases hi : 28 ≤ L.getD 0 0 % 32
    · have hR := hread_bad hk hi
      have e1 : hbeg (L.getD 0 0 / 32) (L.getD 0 0 % 32) = ⟨L.getD 0 0 / 32, 0, 0, 0, true, hbad (L.getD 0 0 / 32) (L.getD 0 0 % 32)⟩ := by unfold hbeg; rw [if_pos hi]
      have hb := hbad_ne (m := L.getD 0 0 / 32) hi
      rw [e1]
      generalize hbad (L.getD 0 0 / 32) (L.getD 0 0 % 32) = b at *
      have hm : (HQ.mk (L.getD 0 0 / 32) 0 0 0 true b).more := Or.inl (by show b ≠ 0; omega)
      rw [if_pos hm, if_pos hm]
      simp only [hm, decide_true, Bool.not_true]
      exact .bad b _ (by omega) hR
    by_cases hs : L.getD 0 0 % 32 < 24
    · have hR := hread_small hk hs
      have e1 : hbeg (L.getD 0 0 / 32) (L.getD 0 0 % 32) = ⟨L.getD 0 0 / 32, 0, L.getD 0 0 % 32, 0, true, 0⟩ := by unfold hbeg; rw [if_neg hi, if_pos hs]
      rw [e1]
      have hm : ¬ (HQ.mk (L.getD 0 0 / 32) 0 (L.getD 0 0 % 32) 0 true 0).more := fun h => by rcases h with h | h; exact h rfl; exact absurd h (by show ¬ (0 : Int) < 0; decide)
      have hsh : hshort (L.getD 0 0 / 32) 0 (L.getD 0 0 % 32) = true := by unfold hshort; rw [if_neg (by omega), leastW_small hs]; rfl
      rw [if_neg hm, if_neg hm]
      dsimp only
      rw [hsh]
      simp only [hm, decide_false, Bool.not_false, if_true]
      exact .whole _ (by rw [hR]; rfl) rfl
    · have e1 : hbeg (L.getD 0 0 / 32) (L.getD 0 0 % 32) = ⟨L.getD 0 0 / 32, hwid (L.getD 0 0 % 32), 0, hwid (L.getD 0 0 % 32), true, 0⟩ := by unfold hbeg; rw [if_neg hi, if_neg hs]
      rw [e1]
      have hw : 1 ≤ hwid (L.getD 0 0 % 32) := by rcases hwid_of _ (by omega : 24 ≤ L.getD 0 0 % 32) (by omega) with ⟨_, h⟩ | ⟨_, h⟩ | ⟨_, h⟩ | ⟨_, h⟩ <;> omega
      have hm : (HQ.mk (L.getD 0 0 / 32) (hwid (L.getD 0 0 % 32)) 0 (hwid (L.getD 0 0 % 32)) true 0).more := Or.inr (by show 0 < hwid _; omega)
      rw [if_pos hm, if_pos hm]
      simp only [hm, decide_true, Bool.not_true]
      refine .more _ (Or.inr ⟨by omega, hk, by omega, by omega, by omega, ?_⟩)
      congr 1
      omega
  · have e0 : hmid ⟨L.getD 0 0 / 32, hwid (L.getD 0 0 % 32), big 18446744073709551616 (pad (L.drop 1) (k - 1)), hwid (L.getD 0 0 % 32) - k + 1, true, 0⟩ (L.getD k 0) =
        ⟨L.getD 0 0 / 32, hwid (L.getD 0 0 % 32), big 18446744073709551616 (pad (L.drop 1) k), hwid (L.getD 0 0 % 32) - k, true, if L.getD 0 0 / 32 = 7 ∧ hwid (L.getD 0 0 % 32) = 1 ∧ big 18446744073709551616 (pad (L.drop 1) k) < 32 then 2 else 0⟩ := by
      have hb : (big 18446744073709551616 (pad (L.drop 1) (k - 1)) * 256 + L.getD k 0) % 18446744073709551616 = big 18446744073709551616 (pad (L.drop 1) k) := by
        have := big_pad 18446744073709551616 (L.drop 1) (k - 1)
        rw [show k - 1 + 1 = k by omega] at this
        rw [this]
        congr 2
        simp only [List.getD_eq_getElem?_getD, List.getElem?_drop]
        rw [show 1 + (k - 1) = k by omega]
      unfold hmid hfollow
      rw [if_neg (by simp), if_pos rfl]
      dsimp only
      rw [hb]
      congr 1
      omega
    rw [e0]
    by_cases hs : L.getD 0 0 / 32 = 7 ∧ hwid (L.getD 0 0 % 32) = 1 ∧ big 18446744073709551616 (pad (L.drop 1) k) < 32
    · rw [if_pos hs]
      have hk1 : k = 1 := by omega
      subst hk1
      have hR := hread_simple (by omega) h2 h3 (by omega) (by unfold harg; rw [hs.2.1]; exact ⟨hs.1, rfl, hs.2.2⟩)
      have hm : (HQ.mk (L.getD 0 0 / 32) (hwid (L.getD 0 0 % 32)) (big 18446744073709551616 (pad (L.drop 1) 1)) (hwid (L.getD 0 0 % 32) - (1 : Nat)) true 2).more := Or.inl (by show (2 : Int) ≠ 0; decide)
      rw [if_pos hm, if_pos hm]
      simp only [hm, decide_true, Bool.not_true]
      exact .bad 2 _ (by decide) hR
    · rw [if_neg hs]
      by_cases hlt : (k : Int) < hwid (L.getD 0 0 % 32)
      · have hm : (HQ.mk (L.getD 0 0 / 32) (hwid (L.getD 0 0 % 32)) (big 18446744073709551616 (pad (L.drop 1) k)) (hwid (L.getD 0 0 % 32) - k) true 0).more := Or.inr (by show 0 < hwid _ - (k : Int); omega)
        rw [if_pos hm, if_pos hm]
        simp only [hm, decide_true, Bool.not_true]
        refine .more _ (Or.inr ⟨by omega, hk, h2, h3, by omega, ?_⟩)
        rw [show k + 1 - 1 = k by omega]
        congr 1
        omega
      · have hkw : (k : Int) = hwid (L.getD 0 0 % 32) := by omega
        have hkn : (hwid (L.getD 0 0 % 32)).toNat = k := by omega
        have hm : ¬ (HQ.mk (L.getD 0 0 / 32) (hwid (L.getD 0 0 % 32)) (big 18446744073709551616 (pad (L.drop 1) k)) (hwid (L.getD 0 0 % 32) - k) true 0).more := fun h => by
          rcases h with h | h
          · exact h rfl
          · exact absurd h (by show ¬ 0 < hwid _ - (k : Int); omega)
        have hR := hread_whole (L := L) (by omega) h2 h3 (by omega) (by unfold harg; rw [hkn]; exact hs)
        unfold harg at hR
        rw [hkn] at hR
        rw [if_neg hm, if_neg hm]
        simp only [hm, decide_false, Bool.not_false]
        cases hb : hshort (L.getD 0 0 / 32) (hwid (L.getD 0 0 % 32)) (big 18446744073709551616 (pad (L.drop 1) k)) with
        | true =>
          unfold hlong at hR
          rw [hb] at hR
          rw [if_pos rfl]
          refine .whole _ ?_ rfl
          rw [hR, ← hkw]
          congr 1
          omega
        | false =>
          unfold hlong at hR
          rw [hb] at hR
          rw [if_neg (by decide)]
          refine .long _ ?_ ?_
          · rw [hR]; exact hkw.symm
          · rw [hR]; rfl
end Go.Proofs.Ytchhbcmkhbfpoaa

/- The contracts of what reads a number out of bytes. -/
namespace Go.Proofs.Ytchhbcmkhbfpoaa
open Go.RowKit

set_option maxHeartbeats 400000 in
/-- The document's answer: the number of n bytes from a place on, missing ones 0. -/
theorem refNumber (w : World) (B : Nat) (A : Option Addr) (cap : Nat) (zs : List Int) (n : Nat) (hr : Rd w B .u8 A zs) (hb : ByteL zs) (hl : zs.length ≤ 9223372036854775807) (hn : n ≤ 9223372036854775807) :
    Calls Try.prog 42 #[.slice A zs.length cap, .int .i64 0, .int .i64 n] w fun e w' => e = .returned (.int .u64 (big 18446744073709551616 (pad zs n))) ∧ w = w' := by
  go_enter Try.func42, Try.ntmps42
  go_wp2
  go_loop [7, 8] (fun x i => ∃ k : Nat, k ≤ n ∧ i = .int .i64 k ∧ x = .int .u64 (big 18446744073709551616 (pad zs k))) (fun _ i => n - (intOf i).toNat)
  case atStart => exact ⟨0, Nat.zero_le _, rfl, rfl⟩
  case round =>
    obtain ⟨k, hk, rfl, rfl⟩ := hrel
    by_cases hlt : k < n
    · have hx := (big_range 18446744073709551616 (pad zs k) (by decide)).1
      have hx1 := (big_range 18446744073709551616 (pad zs k) (by decide)).2
      by_cases hin : k < zs.length
      · obtain ⟨b, o, rfl, _, hc⟩ := hr.get hin
        have HS := Lib.hid ((mod_step _ _ _).trans (big_pad 18446744073709551616 zs k).symm)
        have hb0 := (hb.get k).1
        have hb1 := (hb.get k).2
        generalize zs.getD k 0 = c at hc HS hb0 hb1
        go_wp2
        go_round
        case rel => exact ⟨k + 1, by omega, by go_num, by simp only [IntKind.wrap_u64]; rw [HS.out]⟩
        case measure => simp [intOf]; omega
      · have h0 : zs.getD k 0 = 0 := by simp [List.getD, List.getElem?_eq_none (Nat.le_of_not_lt hin)]
        have HS := Lib.hid ((big_pad 18446744073709551616 zs k).symm)
        rw [h0] at HS
        clear h0
        go_wp2
        go_round
        case rel => exact ⟨k + 1, by omega, by go_num, by rw [IntKind.wrap_u64, ← HS.out, Int.add_zero]⟩
        case measure => simp [intOf]; omega
    · have : k = n := by omega
      subst this
      go_wp2
      go_ret
      exact ⟨rfl, rfl⟩
end Go.Proofs.Ytchhbcmkhbfpoaa

/- The contracts of what lays numbers as bytes. -/
namespace Go.Proofs.Ytchhbcmkhbfpoaa
open Go.RowKit

theorem getD_rev_pad (zs : List Int) (k : Nat) (hk : k < 8) : ((pad zs 8).reverse).getD k 0 = zs.getD (7 - k) 0 := by
  have hl : k < (pad zs 8).length := by rw [length_pad]; exact hk
  rw [List.getD_eq_getElem?_getD, List.getElem?_reverse hl, length_pad]
  simp [pad, show 8 - 1 - k < 8 by omega]
theorem rev_step (zs : List Int) (m : Nat) (hm : m < 8) :
    big 18446744073709551616 ((pad zs 8).reverse.take (8 - m)) = (big 18446744073709551616 ((pad zs 8).reverse.take (8 - (m + 1))) * 256 % 18446744073709551616 + zs.getD m 0) % 18446744073709551616 := by
  rw [mod_step, show 8 - m = (8 - (m + 1)) + 1 by omega, big_take _ _ _ (by rw [List.length_reverse, length_pad]; omega), getD_rev_pad _ _ (by omega), show 7 - (8 - (m + 1)) = m by omega]

/-- The n bytes of x, the least one first. -/
def le (n : Nat) (x : Int) : List Int := (List.range n).map fun i => x / 256 ^ i % 256
theorem length_le (n : Nat) (x : Int) : (le n x).length = n := by simp [le]
theorem le_succ (n : Nat) (x : Int) : le (n + 1) x = le n x ++ [x / 256 ^ n % 256] := by simp [le, List.range_succ]
theorem byte_le (n : Nat) (x : Int) : ByteL (le n x) := by
  intro c hc
  simp only [le, List.mem_map] at hc
  obtain ⟨i, _, rfl⟩ := hc
  omega
theorem laid_step (zs : List Int) (k : Nat) (x : Int) (h : k < zs.length) : (le k x ++ zs.drop k).set k (x / 256 ^ k % 256) = le (k + 1) x ++ zs.drop (k + 1) := by
  rw [List.set_append_right _ _ (by rw [length_le]; exact Nat.le_refl _), length_le, Nat.sub_self, List.drop_eq_getElem_cons h, List.set_cons_zero, le_succ, List.append_assoc]
  rfl
theorem div_step (x : Int) (k : Nat) : x / 256 ^ k / 256 = x / 256 ^ (k + 1) := by
  rw [Int.pow_succ, Int.ediv_ediv_of_nonneg (Int.le_of_lt (Int.pow_pos (by decide)))]

theorem getD_set (l : List Int) (i j : Nat) (u : Int) (h : i < l.length) : (l.set i u).getD j 0 = if i = j then u else l.getD j 0 := by
  simp only [List.getD_eq_getElem?_getD, List.getElem?_set]
  by_cases e : i = j
  · subst e; simp [h]
  · simp [e]
/-- zs with its first k turned round against the last k. -/
def swapped (zs : List Int) (k : Nat) : List Int := (List.range zs.length).map fun i => if i < k ∨ zs.length ≤ i + k then zs.getD (zs.length - 1 - i) 0 else zs.getD i 0
theorem length_swapped (zs : List Int) (k : Nat) : (swapped zs k).length = zs.length := by simp [swapped]
theorem getD_swapped (zs : List Int) (k i : Nat) (h : i < zs.length) : (swapped zs k).getD i 0 = if i < k ∨ zs.length ≤ i + k then zs.getD (zs.length - 1 - i) 0 else zs.getD i 0 := by
  simp [swapped, List.getD_eq_getElem?_getD, h]
theorem ext_getD (a b : List Int) (hl : a.length = b.length) (h : ∀ i, i < a.length → a.getD i 0 = b.getD i 0) : a = b := by
  apply List.ext_getElem hl
  intro i h1 h2
  have := h i h1
  simpa [List.getD_eq_getElem?_getD, h1, h2] using this
theorem swapped_zero (zs : List Int) : swapped zs 0 = zs := by
  apply ext_getD _ _ (length_swapped _ _)
  intro i hi
  rw [length_swapped] at hi
  rw [getD_swapped _ _ _ hi, if_neg (by omega)]
theorem swapped_step (zs : List Int) (k : Nat) (h : k < zs.length - 1 - k) :
    ((swapped zs k).set k ((swapped zs k).getD (zs.length - 1 - k) 0)).set (zs.length - 1 - k) ((swapped zs k).getD k 0) = swapped zs (k + 1) := by
  apply ext_getD _ _ (by simp [length_swapped])
  intro i hi
  simp only [List.length_set, length_swapped] at hi
  rw [getD_set _ _ _ _ (by simp [length_swapped]; omega), getD_set _ _ _ _ (by simp [length_swapped]; omega), getD_swapped _ _ _ hi, getD_swapped _ _ _ hi, getD_swapped _ _ _ (by omega), getD_swapped _ _ _ (by omega)]
  by_cases e1 : zs.length - 1 - k = i
  · rw [if_pos e1, if_neg (by omega), if_pos (by omega)]
    congr 1; omega
  · rw [if_neg e1]
    by_cases e2 : k = i
    · rw [if_pos e2, if_neg (by omega), if_pos (by omega)]
      congr 1; omega
    · rw [if_neg e2]
      by_cases e3 : i < k ∨ zs.length ≤ i + k
      · rw [if_pos e3, if_pos (by omega)]
      · rw [if_neg e3, if_neg (by omega)]
theorem swapped_end (zs : List Int) (k : Nat) (h : zs.length - 1 - k ≤ k) : swapped zs k = zs.reverse := by
  apply ext_getD _ _ (by simp [length_swapped])
  intro i hi
  rw [length_swapped] at hi
  have hr : zs.reverse.getD i 0 = zs.getD (zs.length - 1 - i) 0 := by
    rw [List.getD_eq_getElem?_getD, List.getElem?_reverse hi, ← List.getD_eq_getElem?_getD]
  rw [getD_swapped _ _ _ hi, hr]
  by_cases e : i < k ∨ zs.length ≤ i + k
  · rw [if_pos e]
  · rw [if_neg e]; congr 1; omega

end Go.Proofs.Ytchhbcmkhbfpoaa
