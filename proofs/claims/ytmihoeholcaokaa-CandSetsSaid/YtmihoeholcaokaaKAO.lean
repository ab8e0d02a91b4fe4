/- Package cand: All. -/
import Derived.Test.YtmihoeholcaokaaKAM
import Derived.Test.YtmihoeholcaokaaKAN
import Derived.Test.YtmihoeholcaokaaKAA
import Derived.Test.YtmihoeholcaokaaKAD
import Derived.Test.YtmihoeholcaokaaKAH
import Derived.Test.YtmihoeholcaokaaKAF
namespace Go.Proofs.Ytmihoeholcaokaa
open Go.RowKit Go.Shelf
attribute [local go_sem] Oper.semAt_some

theorem elB_next {B k : Nat} (h : B.testBit k = true) : elB B (k + 1) = elB B k ++ [k] := by rw [elB, if_pos h]
theorem elB_same {B k : Nat} (h : B.testBit k = false) : elB B (k + 1) = elB B k := by rw [elB, if_neg (by rw [h]; decide)]
theorem pcn_lt (B : Nat) {k : Nat} (hk : k < 256) : (elB B k).length < 256 := by
  have := pcn_le B k
  rw [elB_len]
  omega
set_option maxRecDepth 100000 in
set_option maxHeartbeats 4000000 in
theorem cand_each (B Bk l n : Nat) (W : World)
    (J Jx : List Nat → World → Prop) (hJ : ∀ s W1 W2, J s W1 → Below W.heap.size W1 W2 → J s W2) (hK : ∀ s W1, J s W1 → Blk W1 Bk 27 (setC B))
    (hY : ∀ pre z W1, J pre W1 → (pre ++ [z]) <+: elB B 256 → W.heap.size ≤ W1.heap.size → pre.length < 256 → YieldAt Fence.wide 0 Try.prog l #[.int .i64 (z : Nat)] W1 fun e W' =>
      (e = .returned (.bool true) ∧ J (pre ++ [z]) W' ∧ Rs n W.heap.size W1 W') ∨ (e = .returned (.bool false) ∧ Jx (pre ++ [z]) W' ∧ Rs n W.heap.size W1 W'))
    (h0 : J [] W) :
    CallsIn Fence.wide 0 Try.prog 13 #[.func (.yield l) #[] #[], .pointer (some ⟨Bk, 0, none⟩)] W fun e W' => (∃ v, e = .returned v) ∧ ((∃ xs, xs = elB B 256 ∧ J xs W') ∨ (∃ pre, pre <+: elB B 256 ∧ Jx pre W')) := by
  have HJ := Lib.hid hJ
  have HY := Lib.hid hY
  have HK := Lib.hid hK
  have H0 := Lib.hid h0
  have HHA := Lib.hid (fun n w => cand_Has B n w)
  clear hJ hY hK h0
  refine callsIn_of_wp Try.func13 rfl trivial ?_ rfl
  simp only [Try.ntmps13, List.size_toArray, List.length_cons, List.length_nil, Nat.reduceAdd, Nat.reduceSub, Array.replicate_succ, Array.replicate_zero, List.push_toArray, List.append_toArray, List.nil_append, List.cons_append]
  gi_wp2
  gi_loopg [3, 4] (256) (fun gk _ iv wr => ∃ k : Nat, k ≤ 256 ∧ iv = .int .i64 (k : Int) ∧ RowKit.Hid (256 - k = gk) ∧ RowKit.Hid (J (elB B k) wr) ∧ RowKit.Hid (W.heap.size ≤ wr.heap.size))
  case atStart => exact ⟨0, by omega, rfl, Lib.hid rfl, H0, Lib.hid (Nat.le_refl _)⟩
  case round =>
    clear H0
    obtain ⟨k, hk, rfl, HZ, HJK, HSZ⟩ := hrel
    by_cases hlt : k < 256
    · have hBk := HK.out _ _ HJK.out
      have hh := HHA.out
      unfold setC at hBk hh
      obtain ⟨a0, a1, a2, a3, -⟩ := cells4 hBk
      have HH := Lib.hid hh
      clear hBk hh
      cases hb : B.testBit k
      · have HB : Hid (hasB B (k : Int) = false) := Lib.hid (by rw [hasB_nat B k hlt, hb])
        have HE := Lib.hid (elB_same hb)
        clear hb
        gi_wp2_with (first
          | (refine ⟨trivial, rfl, ?_⟩; gi_at_call 6; refine (callsIn_wide.2 (HH.out _ _)).mono ?_; rintro e w2 ⟨rfl, hb2⟩; rw [HB.out]; have HB2 := Lib.hid hb2; clear hb2)
          | fail)
        refine ⟨fun f h => (by cases h), ?_⟩
        gi_wp2
        gi_roundg (256 - (k + 1))
        case rel => exact ⟨k + 1, by omega, by go_num, Lib.hid rfl, Lib.hid (by rw [HE.out]; exact HJ.out _ _ _ HJK.out (HB2.out.mono HSZ.out)), Lib.hid (Nat.le_trans HSZ.out HB2.out.size)⟩
        case measure => rw [← HZ.out]; omega
      · have HB : Hid (hasB B (k : Int) = true) := Lib.hid (by rw [hasB_nat B k hlt, hb])
        have HE := Lib.hid (elB_next hb)
        have HP : Hid (elB B k ++ [k] <+: elB B 256) := Lib.hid (by rw [← elB_next hb]; exact elB_pre B (by omega))
        have HL := Lib.hid (pcn_lt B hlt)
        clear hb
        gi_wp2_with (first
          | (refine ⟨trivial, rfl, ?_⟩; gi_at_call 6; refine (callsIn_wide.2 (HH.out _ _)).mono ?_; rintro e w2 ⟨rfl, hb2⟩; rw [HB.out]; have HB2 := Lib.hid hb2; clear hb2; obtain ⟨fn, tmps, assign, body, hy, hR⟩ := HY.out _ k w2 (HJ.out _ _ _ HJK.out (HB2.out.mono HSZ.out)) HP.out (Nat.le_trans HSZ.out HB2.out.size) HL.out; have HR := Lib.hid hR; clear hR)
          | fail)
        refine ⟨rfl, HR.out.mono ?_⟩
        rintro e W3 (⟨rfl, hJ3, hk3⟩ | ⟨rfl, hJx3, hk3⟩)
        · have HJ3 := Lib.hid hJ3
          have HS3 := Lib.hid (Nat.le_trans (Nat.le_trans HSZ.out HB2.out.size) hk3.low.size)
          clear hJ3 hk3
          gi_wp2
          gi_roundg (256 - (k + 1))
          case rel => exact ⟨k + 1, by omega, by go_num, Lib.hid rfl, Lib.hid (by rw [HE.out]; exact HJ3.out), HS3⟩
          case measure => rw [← HZ.out]; omega
        · have HJX := Lib.hid hJx3
          clear hJx3 hk3
          gi_wp2
          refine bodyPost_ret (results_none rfl _ _ _) rfl ?_
          exact ⟨⟨_, rfl⟩, .inr ⟨_, HP.out, HJX.out⟩⟩
    · gi_wp2
      go_end0
      have e : k = 256 := by omega
      subst e
      exact ⟨⟨_, rfl⟩, .inl ⟨_, rfl, HJK.out⟩⟩
theorem cand_seq (B Bk n : Nat) (w : World) :
    SeqK (fun W => Blk W Bk 27 (setC B)) Try.prog 13 #[.pointer (some ⟨Bk, 0, none⟩)] (fun z : Nat => #[.int .i64 (z : Int)]) (fun pre => pre <+: elB B 256) (fun _ _ _ => True) n (fun xs => xs = elB B 256) (fun pre => pre <+: elB B 256) 256 w := fun l J Jx W _ hJ _ hK hY h0 =>
  cand_each B Bk l n W J Jx hJ hK (fun pre z W1 h1 h2 h3 h4 => hY pre z W1 h1 h2 trivial h3 h4) h0
set_option maxRecDepth 100000 in
theorem cand_All (B : Nat) (w : World) : Calls Try.prog 10 #[.agg (setC B)] w fun e w' => e = .returned (.func (.func 13) #[] #[.pointer (some ⟨w.heap.size, 0, none⟩)]) ∧ Blk w' w.heap.size 27 (setC B) ∧ Below w.heap.size w w' := by
  obtain ⟨w1, hw1, b1, S⟩ := sblock w B
  have HS := Lib.hid S
  have HB := Lib.hid b1
  clear b1 S
  go_enter Try.func10, Try.ntmps10
  go_wp2
  go_ret
  exact ⟨rfl, HB.out, HS.out⟩
end Go.Proofs.Ytmihoeholcaokaa

/- Texts in UTF-8: the plain functions. -/
namespace Go.Proofs.Ytmihoeholcaokaa
open Go.RowKit

/-- How far a sign has come: bytes to come, the bounds of the next one; gone wrong. -/
structure UQ where
  left : Nat
  lo : Int
  hi : Int
  wr : Bool
def uq0 : UQ := ⟨0, 0, 0, false⟩
def ulo (c : Int) : Int := if c = 224 then 160 else if c = 240 then 144 else 128
def uhi (c : Int) : Int := if c = 237 then 159 else if c = 244 then 143 else 191
/-- How many bytes follow a sign's first one; none: no sign begins so. -/
def umore (c : Int) : Option Nat := if 240 ≤ c ∧ c ≤ 244 then some 3 else if 224 ≤ c ∧ c ≤ 239 then some 2 else if 194 ≤ c ∧ c ≤ 223 then some 1 else if c ≤ 127 then some 0 else none
def ustep (q : UQ) (c : Int) : UQ :=
  if q.wr then q else if q.left = 0 then (match umore c with
    | some n => ⟨n, ulo c, uhi c, false⟩
    | none => { q with wr := true })
  else if c < q.lo ∨ q.hi < c then { q with wr := true } else ⟨q.left - 1, 128, 191, false⟩
def udone (q : UQ) : Bool := !q.wr && q.left == 0
def ucells (q : UQ) : Array Value := #[.int .i64 q.left, .int .u8 q.lo, .int .u8 q.hi, .bool q.wr]

def urun : UQ → List Int → UQ
  | q, [] => q
  | q, c :: r => urun (ustep q c) r
/-- The place of the first byte that can't stand there, counted from i; -1: none. -/
def uat : UQ → List Int → Nat → Int
  | _, [], _ => -1
  | q, c :: r, i => if (ustep q c).wr then i else uat (ustep q c) r (i + 1)
def uok (q : UQ) (l : List Int) : Bool := udone (urun q l)
/-- The bytes of a text. -/
def sbytes (s : ByteArray) : List Int := s.data.toList.map fun b => (b.toNat : Int)
def sb (s : ByteArray) (k : Nat) : Int := (sbytes s).getD k 0
theorem length_sbytes (s : ByteArray) : (sbytes s).length = s.size := by simp [sbytes]
theorem sb_range (s : ByteArray) (k : Nat) : 0 ≤ sb s k ∧ sb s k < 256 := by
  unfold sb sbytes
  rw [List.getD_eq_getElem?_getD, List.getElem?_map]
  cases s.data.toList[k]? with
  | none => simp
  | some b => have := b.toNat_lt; simp; omega
theorem sb_eq (s : ByteArray) (k : Nat) (h : k < s.size) : ((s[k]'h).toNat : Int) = sb s k := by
  have hl : k < s.data.toList.length := by simpa using h
  unfold sb sbytes
  rw [List.getD_eq_getElem?_getD, List.getElem?_map, List.getElem?_eq_getElem hl]
  rfl
/-- A text's byte is read. -/
theorem run_sb {P : Program} {t : TypeId} (ht : P.underlying t = some .string) (w : World) (s : ByteArray) (k : Nat) (h : k < s.size) (i : Int) (hi : i = k) : (Instr.index t (.string s) (.int .i64 i)).run P w = .ok (.int .u8 (sb s k)) w := by
  subst hi
  rw [run_index_string w t s .i64 k ht, dif_pos (by omega)]
  show Result.ok (Value.int .u8 ((s[(k : Int).toNat]'_).toNat : Int)) w = _
  rw [show ((s[(k : Int).toNat]'(by omega)).toNat : Int) = ((s[k]'h).toNat : Int) from rfl, sb_eq]
end Go.Proofs.Ytmihoeholcaokaa

/- Schemas as plain tables: what is wrong of a node, and which node is the first. -/
namespace Go.Proofs.Ytmihoeholcaokaa

/-- A field: its key, its node, whether it may lack. -/
structure Fl where
  key : ByteArray
  node : Int
  opt : Bool
/-- A node. -/
structure Nd where
  k : Int
  lo : Int
  hi : Int
  v : It
  l : List Int
  f : List Fl
theorem Fl.eq_iff {a b : Fl} : a = b ↔ a.key = b.key ∧ a.node = b.node ∧ a.opt = b.opt := by
  cases a; cases b; simp
theorem Nd.eq_iff {a b : Nd} : a = b ↔ a.k = b.k ∧ a.lo = b.lo ∧ a.hi = b.hi ∧ a.v = b.v ∧ a.l = b.l ∧ a.f = b.f := by
  cases a; cases b; simp
def zIt : It := .mk 0 0 ⟨#[]⟩ []
/-- The node of a kind that has nothing else. -/
def Nd.of (k : Int) : Nd := ⟨k, 0, 0, zIt, [], []⟩
open Classical in
noncomputable def sameN (a b : Nd) : Bool := decide (a = b)
theorem sameN_true {a b : Nd} : sameN a b = true ↔ a = b := by simp [sameN]
theorem sameN_false {a b : Nd} : sameN a b = false ↔ a ≠ b := by simp [sameN]
theorem sameN_refl (a : Nd) : sameN a a = true := sameN_true.2 rfl
theorem sameN_of {a b : Nd} {r : Bool} (h : r = true ↔ a = b) : sameN a b = r := by
  cases r
  · exact sameN_false.2 fun e => by simpa using h.2 e
  · exact sameN_true.2 (h.1 rfl)
open Classical in
/-- All nodes alike? -/
noncomputable def sameS (a b : List Nd) : Bool := decide (a = b)
theorem sameS_true {a b : List Nd} : sameS a b = true ↔ a = b := by simp [sameS]
theorem sameS_refl (a : List Nd) : sameS a a = true := sameS_true.2 rfl
theorem sameS_of {a b : List Nd} {r : Bool} (h : r = true ↔ a = b) : sameS a b = r := by
  cases r
  · simp only [sameS, decide_eq_false_iff_not]
    exact fun e => by simpa using h.2 e
  · exact sameS_true.2 (h.1 rfl)

/-- The first that isn't 0, of n. -/
def firstE (f : Nat → Int) (n : Nat) : Int := firstErr ((List.range n).map f)
/-- .. its number. -/
def firstI (f : Nat → Int) (n : Nat) : Nat := ((List.range n).find? fun j => decide (f j ≠ 0)).getD 0
theorem firstE_all {f : Nat → Int} {n : Nat} (h : ∀ j, j < n → f j = 0) : firstE f n = 0 := firstErr_all fun x hx => by
  obtain ⟨j, hj, rfl⟩ := List.mem_map.1 hx
  exact h j (List.mem_range.1 hj)
theorem range_split {k n : Nat} (hk : k < n) : ∃ r, List.range n = List.range k ++ k :: r := by
  refine ⟨(List.range n).drop (k + 1), ?_⟩
  have h := List.take_append_drop k (List.range n)
  rw [List.drop_eq_getElem_cons (by simpa using hk)] at h
  rw [List.take_range, Nat.min_eq_left (Nat.le_of_lt hk)] at h
  simpa using h.symm
theorem firstE_at {f : Nat → Int} {n k : Nat} (hk : k < n) (h : ∀ j, j < k → f j = 0) (he : f k ≠ 0) : firstE f n = f k := by
  obtain ⟨r, hr⟩ := range_split hk
  unfold firstE
  rw [hr, List.map_append, List.map_cons]
  exact firstErr_at (fun x hx => by
    obtain ⟨j, hj, rfl⟩ := List.mem_map.1 hx
    exact h j (List.mem_range.1 hj)) he
theorem firstI_all {f : Nat → Int} {n : Nat} (h : ∀ j, j < n → f j = 0) : firstI f n = 0 := by
  unfold firstI
  rw [List.find?_eq_none.2 fun j hj => by simp [h j (List.mem_range.1 hj)]]
  rfl
theorem firstI_at {f : Nat → Int} {n k : Nat} (hk : k < n) (h : ∀ j, j < k → f j = 0) (he : f k ≠ 0) : firstI f n = k := by
  obtain ⟨r, hr⟩ := range_split hk
  unfold firstI
  rw [hr, List.find?_append, List.find?_eq_none.2 fun j hj => by simp [h j (List.mem_range.1 hj)]]
  simp [he]
theorem firstE_cases (f : Nat → Int) (n : Nat) : (∀ j, j < n → f j = 0) ∨ ∃ k, k < n ∧ (∀ j, j < k → f j = 0) ∧ f k ≠ 0 := by
  induction n with
  | zero => exact .inl fun j hj => absurd hj (by omega)
  | succ n ih =>
    rcases ih with h | ⟨k, h1, h2, h3⟩
    · by_cases e : f n = 0
      · refine .inl fun j hj => ?_
        by_cases hjn : j = n
        · rw [hjn]; exact e
        · exact h j (by omega)
      · exact .inr ⟨n, by omega, h, e⟩
    · exact .inr ⟨k, by omega, h2, h3⟩

open Classical in
/-- What is wrong of a field's key. -/
noncomputable def keyE (fs : List Fl) (j : Nat) : Int :=
  match fs[j]? with
  | none => 0
  | some x => if uok uq0 (sbytes x.key) = false then 6 else if 1021 < x.key.size then 4 else if x.key ∈ (fs.take j).map Fl.key then 14 else 0
open Classical in
theorem keyE_some {fs : List Fl} {j : Nat} {x : Fl} (h : fs[j]? = some x) : keyE fs j = if uok uq0 (sbytes x.key) = false then 6 else if 1021 < x.key.size then 4 else if x.key ∈ (fs.take j).map Fl.key then 14 else 0 := by
  unfold keyE; rw [h]
noncomputable def keysN (fs : List Fl) : Int := firstE (keyE fs) fs.length
/-- The nodes that a node names. -/
def namedN (x : Nd) : List Int := x.l ++ x.f.map Fl.node
def nameB (i m t : Int) : Bool := decide (t ≤ i) || decide (m ≤ t)
def nameE (x : Nd) (i m : Int) : Int := if (namedN x).any (nameB i m) then 13 else 0
def rangedN (x : Nd) : Bool :=
  if x.k = 2 ∨ x.k = 3 ∨ x.k = 6 then decide (0 ≤ x.lo) && decide (x.lo ≤ x.hi) else if x.k = 1 then decide (x.lo ≤ x.hi) else if x.k = 9 then decide (0 ≤ x.lo) else true
def valuedN (ch : It → Int) (v : It) : Bool := (decide (v.k = 0) || decide (v.k = 1) || decide (v.k = 2) || decide (v.k = 3) || decide (v.k = 7)) && decide (ch v = 0)
noncomputable def formN (ch : It → Int) (x : Nd) : Bool :=
  if x.k = 1 ∨ x.k = 2 ∨ x.k = 3 then sameN { x with lo := 0, hi := 0 } (Nd.of x.k)
  else if x.k = 4 then valuedN ch x.v && sameN { x with v := zIt } (Nd.of x.k)
  else if x.k = 8 then sameN { x with f := [] } (Nd.of x.k)
  else if x.k = 6 then decide (x.l.length = 1) && sameN { x with lo := 0, hi := 0, l := [] } (Nd.of x.k)
  else if x.k = 9 then decide (x.l.length = 1) && sameN { x with lo := 0, l := [] } (Nd.of x.k)
  else if x.k = 10 then decide (1 ≤ x.l.length) && sameN { x with l := [] } (Nd.of x.k)
  else if x.k = 7 then sameN { x with l := [] } (Nd.of x.k)
  else sameN x (Nd.of x.k)
/-- What is wrong of node number i of m. -/
noncomputable def wrongN (ch : It → Int) (x : Nd) (i m : Int) : Int :=
  if x.k < 0 ∨ 10 < x.k then 18 else if formN ch x = false then 11 else if rangedN x = false then 15 else if keysN x.f ≠ 0 then keysN x.f else nameE x i m
noncomputable def errN (ch : It → Int) (xs : List Nd) (i : Nat) : Int := match xs[i]? with | none => 0 | some x => wrongN ch x i xs.length
theorem errN_some {ch : It → Int} {xs : List Nd} {i : Nat} {x : Nd} (h : xs[i]? = some x) : errN ch xs i = wrongN ch x i xs.length := by unfold errN; rw [h]
noncomputable def checkE (ch : It → Int) (xs : List Nd) : Int := if xs.length < 1 ∨ 256 < xs.length then 16 else firstE (errN ch xs) xs.length
noncomputable def checkI (ch : It → Int) (xs : List Nd) : Nat := if xs.length < 1 ∨ 256 < xs.length then 0 else firstI (errN ch xs) xs.length
end Go.Proofs.Ytmihoeholcaokaa

/- The document's Same: two items in memory, whatever they share. -/
namespace Go.Proofs.Ytmihoeholcaokaa
open Go.RowKit

/-- An item by value. -/
def vI (t : It) (A : Option Addr) (cap : Nat) : Value := .agg #[.int .i64 t.k, .int .u64 t.n, .string t.s, .slice A t.l.length cap]
/-- .. and its items in memory. -/
structure AtV (w : World) (t : It) (A : Option Addr) (cap : Nat) : Prop where
  le : t.l.length ≤ cap
  nil : A = none → cap = 0
  at_ : AtL w (fun _ => True) t.l A
theorem AtV.on {w w' : World} {t : It} {A : Option Addr} {cap : Nat} (h : AtV w t A cap) (hb : Below w.heap.size w w') : AtV w' t A cap := ⟨h.le, h.nil, h.at_.on hb⟩
/-- Item number i: its cells, and what stands behind them. -/
theorem AtL.item {w : World} {l : List It} {A : Option Addr} (h : AtL w (fun _ => True) l A) {i : Nat} (hi : i < l.length) : ∃ b o X A' cap', A = some ⟨b, o, none⟩ ∧ b < w.heap.size ∧ l[i]? = some X ∧ X ∈ l ∧
    w.cell? ⟨b, o + i * 4, none⟩ = some (.int .i64 X.k) ∧ w.cell? ⟨b, o + i * 4 + 1, none⟩ = some (.int .u64 X.n) ∧ w.cell? ⟨b, o + i * 4 + 2, none⟩ = some (.string X.s) ∧
    w.cell? ⟨b, o + i * 4 + 3, none⟩ = some (.slice A' X.l.length cap') ∧ AtV w X A' cap' := by
  obtain ⟨b, o, rfl, _, hb, h1, _⟩ := h.get hi
  rw [Nat.mul_comm 4 i] at h1
  obtain ⟨A', cap', c0, c1, c2, c3, g1, g2, g3⟩ := h1.parts
  exact ⟨b, o, l[i], A', cap', rfl, hb, List.getElem?_eq_getElem hi, List.getElem_mem hi, c0, c1, c2, c3, g1, g2, g3⟩

theorem text_eq {a b : ByteArray} (h : a.toList = b.toList) : a = b := by
  rw [ByteArray.toList_eq, ByteArray.toList_eq] at h
  exact ByteArray.ext (Array.toList_inj.1 h)
theorem sameB_fields {x y : It} (h : ¬ (x.k = y.k ∧ x.n = y.n ∧ x.s = y.s ∧ x.l.length = y.l.length)) : sameB x y = false := by
  cases hb : sameB x y
  · rfl
  · rw [sameB_true] at hb
    subst hb
    simp at h


end Go.Proofs.Ytmihoeholcaokaa

/- The document's over: deeper, wider, longer texts than are looked at. -/
namespace Go.Proofs.Ytmihoeholcaokaa
open Go.RowKit

def overB : Nat → It → Bool
  | 0, _ => true
  | d + 1, t => decide (200 < t.l.length) || decide (300 < t.s.size) || t.l.any (overB d)
theorem any_none {l : List It} {p : It → Bool} (h : ∀ (j : Nat) (X : It), l[j]? = some X → p X = false) : l.any p = false := by
  rw [List.any_eq_false]
  intro x hx
  obtain ⟨j, hj⟩ := List.mem_iff_getElem?.1 hx
  simp [h j x hj]

end Go.Proofs.Ytmihoeholcaokaa

/- A slice of the call's own at a known block: one of its numbers is read, is written. -/
namespace Go.Proofs.Ytmihoeholcaokaa
open Go.RowKit

section
variable {w w' : World} {B g n cap : Nat} {k : IntKind} {e : TypeId} {zs : List Int}
theorem Own.at (h : Own w B k e (.slice (some ⟨g, 0, none⟩) n cap) zs) {j : Nat} (hj : j < zs.length) : w.cell? ⟨g, j, none⟩ = some (.int k (zs.getD j 0)) ∧ w.frozen? ⟨g, j, none⟩ = false := by
  obtain ⟨g', cap', hv, _, h1, h2, _⟩ := h.put hj 0
  injection hv with e1 e2 e3
  injection e1 with e1
  injection e1 with e1
  subst e1
  exact ⟨h1, h2⟩
theorem Own.set (h : Own w B k e (.slice (some ⟨g, 0, none⟩) n cap) zs) {j : Nat} (hj : j < zs.length) (x : Int) : Own (w.setCell ⟨g, j, none⟩ (.int k x)) B k e (.slice (some ⟨g, 0, none⟩) n cap) (zs.set j x) := by
  obtain ⟨g', cap', hv, _, _, _, h3, _⟩ := h.put hj x
  injection hv with e1 e2 e3
  injection e1 with e1
  injection e1 with e1
  subst e1
  exact h3
theorem Own.ge (h : Own w B k e (.slice (some ⟨g, 0, none⟩) n cap) zs) : B ≤ g := by
  obtain ⟨A, cap', hv, _, _, _, hb, _⟩ := h.form
  injection hv with e1 e2 e3
  obtain ⟨b, hp, hB⟩ := hb _ e1.symm
  injection hp with e1
  omega
theorem Own.lt (h : Own w B k e (.slice (some ⟨g, 0, none⟩) n cap) zs) (hn : 0 < zs.length) : g < w.heap.size := block_lt_of_cell (h.at hn).1
theorem Own.len (h : Own w B k e (.slice (some ⟨g, 0, none⟩) n cap) zs) : n = zs.length := by
  obtain ⟨A, cap', hv, _, _, _, _, _⟩ := h.form
  injection hv
/-- Its block. -/
theorem Own.head {v : Value} (h : Own w B k e v zs) (hn : 0 < zs.length) : ∃ g cap, v = .slice (some ⟨g, 0, none⟩) zs.length cap := by
  obtain ⟨g, cap, hv, _⟩ := h.put hn 0
  exact ⟨g, cap, hv⟩
end
end Go.Proofs.Ytmihoeholcaokaa
