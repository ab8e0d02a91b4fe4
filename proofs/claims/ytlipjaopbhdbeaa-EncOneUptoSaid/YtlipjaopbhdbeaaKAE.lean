/- Items in memory. -/
import Derived.Test.YtlipjaopbhdbeaaKAB
import Derived.Test.YtlipjaopbhdbeaaKAD
import Derived.Lib.Bytealg
import Derived.Test.YtlipjaopbhdbeaaChecked
import Derived.Test.YtlipjaopbhdbeaaKAC
import Derived.Lib.BytesEntry
namespace Go.Proofs.Ytlipjaopbhdbeaa
open Go.RowKit

mutual
/-- An item's four cells lie at b, o; its items where its list says; all in blocks of S. -/
def At1 (w : World) (S : Nat → Prop) : It → Nat → Nat → Prop
  | .mk k n s l, b, o => ∃ A cap, w.cell? ⟨b, o, none⟩ = some (.int .i64 k) ∧ w.cell? ⟨b, o + 1, none⟩ = some (.int .u64 n) ∧ w.cell? ⟨b, o + 2, none⟩ = some (.string s) ∧
      w.cell? ⟨b, o + 3, none⟩ = some (.slice A l.length cap) ∧ l.length ≤ cap ∧ (A = none → cap = 0) ∧ AtL w S l A
/-- A list of items, one behind the other, from A on. -/
def AtL (w : World) (S : Nat → Prop) : List It → Option Addr → Prop
  | [], _ => True
  | t :: r, A => ∃ b o, A = some ⟨b, o, none⟩ ∧ S b ∧ b < w.heap.size ∧ At1 w S t b o ∧ AtL w S r (some ⟨b, o + 4, none⟩)
end
section
variable {w w' : World} {S S' : Nat → Prop}
theorem At1.parts {t : It} {b o : Nat} (h : At1 w S t b o) : ∃ A cap, w.cell? ⟨b, o, none⟩ = some (.int .i64 t.k) ∧ w.cell? ⟨b, o + 1, none⟩ = some (.int .u64 t.n) ∧ w.cell? ⟨b, o + 2, none⟩ = some (.string t.s) ∧
      w.cell? ⟨b, o + 3, none⟩ = some (.slice A t.l.length cap) ∧ t.l.length ≤ cap ∧ (A = none → cap = 0) ∧ AtL w S t.l A := by
  cases t with | mk k n s l => simpa only [At1, It.k, It.n, It.s, It.l] using h
theorem At1.mk {t : It} {b o : Nat} (A : Option Addr) (cap : Nat) (h0 : w.cell? ⟨b, o, none⟩ = some (.int .i64 t.k)) (h1 : w.cell? ⟨b, o + 1, none⟩ = some (.int .u64 t.n)) (h2 : w.cell? ⟨b, o + 2, none⟩ = some (.string t.s))
    (h3 : w.cell? ⟨b, o + 3, none⟩ = some (.slice A t.l.length cap)) (h4 : t.l.length ≤ cap) (h5 : A = none → cap = 0) (h6 : AtL w S t.l A) : At1 w S t b o := by
  cases t with | mk k n s l => simp only [At1]; exact ⟨A, cap, h0, h1, h2, h3, h4, h5, h6⟩
theorem AtL.nil (A : Option Addr) : AtL w S [] A := by simp [AtL]
theorem AtL.cons {t : It} {r : List It} {A : Option Addr} (h : AtL w S (t :: r) A) : ∃ b o, A = some ⟨b, o, none⟩ ∧ S b ∧ b < w.heap.size ∧ At1 w S t b o ∧ AtL w S r (some ⟨b, o + 4, none⟩) := by simpa only [AtL] using h
theorem AtL.mk {t : It} {r : List It} {b o : Nat} (h1 : S b) (h2 : b < w.heap.size) (h3 : At1 w S t b o) (h4 : AtL w S r (some ⟨b, o + 4, none⟩)) : AtL w S (t :: r) (some ⟨b, o, none⟩) := by
  simp only [AtL]; exact ⟨b, o, rfl, h1, h2, h3, h4⟩
theorem cell_kept' {b o : Nat} {v : Value} (h : w'.heap[b]? = w.heap[b]?) (hc : w.cell? ⟨b, o, none⟩ = some v) : w'.cell? ⟨b, o, none⟩ = some v := by
  rw [World.cell?_of_block (w := w) (a := ⟨b, o, none⟩) h]; exact hc
theorem lt_kept {b : Nat} (h : w'.heap[b]? = w.heap[b]?) (hb : b < w.heap.size) : b < w'.heap.size := by
  have e : w'.heap[b]? = some w.heap[b] := h.trans (Array.getElem?_eq_getElem hb)
  exact (Array.getElem?_eq_some_iff.1 e).1
mutual
theorem At1.keep (hk : ∀ b, S b → b < w.heap.size → w'.heap[b]? = w.heap[b]?) (hS : ∀ b, S b → S' b) : ∀ (t : It) (b o : Nat), S b → b < w.heap.size → At1 w S t b o → At1 w' S' t b o
  | .mk k n s l, b, o, hs, hb, h => by
    simp only [At1] at h ⊢
    obtain ⟨A, cap, h0, h1, h2, h3, h4, h5, h6⟩ := h
    have e := hk b hs hb
    exact ⟨A, cap, cell_kept' e h0, cell_kept' e h1, cell_kept' e h2, cell_kept' e h3, h4, h5, AtL.keep hk hS l A h6⟩
theorem AtL.keep (hk : ∀ b, S b → b < w.heap.size → w'.heap[b]? = w.heap[b]?) (hS : ∀ b, S b → S' b) : ∀ (l : List It) (A : Option Addr), AtL w S l A → AtL w' S' l A
  | [], A, _ => AtL.nil A
  | t :: r, A, h => by
    simp only [AtL] at h ⊢
    obtain ⟨b, o, rfl, h1, h2, h3, h4⟩ := h
    exact ⟨b, o, rfl, hS b h1, lt_kept (hk b h1 h2) h2, At1.keep hk hS t b o h1 h2 h3, AtL.keep hk hS r _ h4⟩
end
/-- What lay below the heap's size lies as it lay. -/
theorem AtL.on {l : List It} {A : Option Addr} (h : AtL w S l A) (hb : Below w.heap.size w w') : AtL w' S l A := AtL.keep (fun b _ hlt => hb.block b hlt) (fun _ h => h) l A h
theorem AtL.alloc {l : List It} {A : Option Addr} (h : AtL w S l A) (ob : Obj) : AtL (w.alloc ob) S l A := h.on (below_alloc w ob)
theorem AtL.drew {l : List It} {A : Option Addr} (h : AtL w S l A) : AtL w.drew S l A := AtL.keep (w := w) (w' := w.drew) (fun _ _ _ => rfl) (fun _ h => h) l A h
theorem AtL.drewN {l : List It} {A : Option Addr} (h : AtL w S l A) (n : Nat) : AtL (w.drewN n) S l A := AtL.keep (w := w) (w' := w.drewN n) (fun _ _ _ => rfl) (fun _ h => h) l A h
theorem AtL.more {l : List It} {A : Option Addr} (h : AtL w S l A) (hS : ∀ b, S b → S' b) : AtL w S' l A := AtL.keep (fun _ _ _ => rfl) hS l A h
theorem AtL.drop {l : List It} {b o : Nat} (h : AtL w S l (some ⟨b, o, none⟩)) : ∀ i, AtL w S (l.drop i) (some ⟨b, o + 4 * i, none⟩) := by
  intro i
  induction i generalizing l o with
  | zero => simpa using h
  | succ i ih =>
    cases l with
    | nil => simpa using AtL.nil _
    | cons t r =>
      obtain ⟨b', o', e, h1, h2, h3, h4⟩ := h.cons
      injection e with e
      injection e with e1 e2 _
      subst e1; subst e2
      have := ih h4
      rw [show o + 4 * (i + 1) = o + 4 + 4 * i by omega]
      simpa using this
/-- Item number i. -/
theorem AtL.get {l : List It} {A : Option Addr} (h : AtL w S l A) {i : Nat} (hi : i < l.length) : ∃ b o, A = some ⟨b, o, none⟩ ∧ S b ∧ b < w.heap.size ∧ At1 w S l[i] b (o + 4 * i) ∧ AtL w S (l.drop (i + 1)) (some ⟨b, o + 4 * (i + 1), none⟩) := by
  have hne : l ≠ [] := fun e => by subst e; simp at hi
  obtain ⟨t, r, rfl⟩ : ∃ t r, l = t :: r := by cases l with
    | nil => exact absurd rfl hne
    | cons t r => exact ⟨t, r, rfl⟩
  obtain ⟨b, o, rfl, h1, h2, h3, h4⟩ := h.cons
  have hd := AtL.drop (i := i) (AtL.mk h1 h2 h3 h4)
  rw [List.drop_eq_getElem_cons hi] at hd
  obtain ⟨b', o', e, g1, g2, g3, g4⟩ := hd.cons
  injection e with e
  injection e with e1 e2 _
  subst e1; subst e2
  exact ⟨b, o, rfl, g1, g2, g3, g4⟩
/-- The list without its first n: where it lies. -/
def cutI (A : Option Addr) (n cap : Nat) : Option Addr := if cap = n then A else A.map (·.add (n * 4))
theorem AtL.cut {l : List It} {A : Option Addr} (h : AtL w S l A) (n : Nat) {cap : Nat} (hc : l.length ≤ cap) : AtL w S (l.drop n) (cutI A n cap) := by
  unfold cutI
  by_cases hn : n < l.length
  · rw [if_neg (by omega)]
    obtain ⟨b, o, rfl, _⟩ := h.get hn
    have := h.drop n
    rw [Option.map_some, Addr.add_mid, Nat.mul_comm n 4]
    exact this
  · rw [List.drop_of_length_le (by omega)]; exact AtL.nil _
end
end Go.Proofs.Ytlipjaopbhdbeaa

/- Numbers and texts held against each other; the first that isn't 0. -/
namespace Go.Proofs.Ytlipjaopbhdbeaa
open Go.RowKit

theorem ByteArray.toNat_list (a : UInt8) : ((a.toNat : Int)) = ((a.toNat : Nat) : Int) := rfl
theorem textC_bytes : ∀ (a b : List UInt8), seqC intC (a.map fun c => (c.toNat : Int)) (b.map fun c => (c.toNat : Int)) = Lib.compareBytes a b := by
  intro a
  induction a with
  | nil => intro b; cases b <;> simp [seqC, Lib.compareBytes]
  | cons x a ih =>
    intro b
    cases b with
    | nil => simp [seqC, Lib.compareBytes]
    | cons y b =>
      simp only [List.map_cons, seqC, Lib.compareBytes, ih b]
      unfold intC
      have h1 : (x < y) ↔ (x.toNat : Int) < (y.toNat : Int) := by rw [UInt8.lt_iff_toNat_lt]; omega
      have h2 : (y < x) ↔ (y.toNat : Int) < (x.toNat : Int) := by rw [UInt8.lt_iff_toNat_lt]; omega
      by_cases p : x < y
      · rw [if_pos (h1.1 p), if_pos p]; rfl
      · rw [if_neg (fun h => p (h1.2 h)), if_neg p]
        by_cases q : y < x
        · rw [if_pos (h2.1 q), if_pos q]; rfl
        · rw [if_neg (fun h => q (h2.2 h)), if_neg q]; rfl
theorem textC_eq (a b : ByteArray) : textC a b = Lib.compareBytes a.data.toList b.data.toList := textC_bytes _ _

theorem cmp_int (a b : Int) (w : World) : Calls Try.prog 88 #[.int .i64 a, .int .i64 b] w fun e w' => e = .returned (.int .i64 (intC a b)) ∧ w' = w := by
  unfold intC
  by_cases h1 : a < b
  · rw [if_pos h1]
    go_enter Try.func88, Try.ntmps88
    go_wp2
    go_ret
    exact ⟨rfl, rfl⟩
  · rw [if_neg h1]
    by_cases h2 : b < a
    · rw [if_pos h2]
      go_enter Try.func88, Try.ntmps88
      go_wp2
      go_ret
      exact ⟨rfl, rfl⟩
    · rw [if_neg h2]
      go_enter Try.func88, Try.ntmps88
      go_wp2
      go_ret
      exact ⟨rfl, rfl⟩
theorem cmp_u64 (a b : Int) (w : World) : Calls Try.prog 89 #[.int .u64 a, .int .u64 b] w fun e w' => e = .returned (.int .i64 (intC a b)) ∧ w' = w := by
  unfold intC
  by_cases h1 : a < b
  · rw [if_pos h1]
    go_enter Try.func89, Try.ntmps89
    go_wp2
    go_ret
    exact ⟨rfl, rfl⟩
  · rw [if_neg h1]
    by_cases h2 : b < a
    · rw [if_pos h2]
      go_enter Try.func89, Try.ntmps89
      go_wp2
      go_ret
      exact ⟨rfl, rfl⟩
    · rw [if_neg h2]
      go_enter Try.func89, Try.ntmps89
      go_wp2
      go_ret
      exact ⟨rfl, rfl⟩
set_option maxRecDepth 100000 in
theorem cmp_string (a b : ByteArray) (w : World) : Calls Try.prog 109 #[.string a, .string b] w fun e w' => e = .returned (.int .i64 (textC a b)) ∧ w' = w := by
  rw [textC_eq]
  go_enter Try.func109, Try.ntmps109
  go_wp2
  rw [run_callFunc_extern Try.func113 (by kernel_rfl) (by kernel_rfl) (by kernel_rfl) (e := Extern.BytealgCompare.compare) (by kernel_rfl), Lib.run_compareString]
  simp only [Result.andThen]
  rw [Oper.upon_value]
  go_wp2
  go_ret
  exact ⟨rfl, rfl⟩
theorem strings_compare (a b : ByteArray) (w : World) : Calls Try.prog 90 #[.string a, .string b] w fun e w' => e = .returned (.int .i64 (textC a b)) ∧ w' = w := by
  go_enter Try.func90, Try.ntmps90
  go_wp2_with (go_at_call 109; refine (cmp_string _ _ _).mono ?_; rintro e w' ⟨rfl, rfl⟩)
  go_ret
  exact ⟨rfl, rfl⟩

def orC (a b c d : Int) : Int := if a ≠ 0 then a else if b ≠ 0 then b else if c ≠ 0 then c else d
theorem oneC_or (x y : It) : oneC x y = orC (intC x.k y.k) (intC x.n y.n) (intC x.l.length y.l.length) (textC x.s y.s) := by
  unfold oneC thenC orC
  rfl
theorem orC_at {a b c d x : Int} {k : Nat} (hk : k < 4) (hz : ∀ j, j < k → [a, b, c, d].getD j 0 = 0) (hx : [a, b, c, d].getD k 0 = x) (h : x ≠ 0) : orC a b c d = x := by
  unfold orC
  have z0 := hz 0
  have z1 := hz 1
  have z2 := hz 2
  rcases (by omega : k = 0 ∨ k = 1 ∨ k = 2 ∨ k = 3) with rfl | rfl | rfl | rfl <;> simp_all
theorem orC_none {a b c d : Int} (hz : ∀ j, j < 4 → [a, b, c, d].getD j 0 = 0) : orC a b c d = 0 := by
  have z0 := hz 0 (by omega)
  have z1 := hz 1 (by omega)
  have z2 := hz 2 (by omega)
  have z3 := hz 3 (by omega)
  clear hz
  unfold orC
  simp_all
set_option maxHeartbeats 1000000 in
theorem cmp_or (a b c d : Int) (w : World) (g : Nat) (hc : ∀ i, i < 4 → w.cell? ⟨g, i, none⟩ = some (.int .i64 ([a, b, c, d].getD i 0))) :
    Calls Try.prog 87 #[.slice (some ⟨g, 0, none⟩) 4 4] w fun e w' => e = .returned (.int .i64 (orC a b c d)) ∧ w' = w := by
  have HC := Lib.hid hc
  clear hc
  go_enter Try.func87, Try.ntmps87
  go_wp2_with fail
  go_loopw [5, 8] (fun v i wr => ∃ k : Nat, k ≤ 4 ∧ i = .int .i64 (k : Int) ∧ wr = w ∧ (∀ j, j < k → [a, b, c, d].getD j 0 = 0)) (fun _ i _ => 4 - (intOf i).toNat)
  case atStart => exact ⟨0, by omega, rfl, rfl, by omega⟩
  case round =>
    obtain ⟨k, hk, rfl, rfl, hz⟩ := hrel
    by_cases hlt : k < 4
    · obtain ⟨x, hx⟩ : ∃ x, [a, b, c, d].getD k 0 = x := ⟨_, rfl⟩
      have hcell := HC.out k hlt
      rw [hx] at hcell
      have HZ := Lib.hid hz
      have HX := Lib.hid hx
      clear hz hx
      by_cases h0 : x = 0
      · subst h0
        go_wp2
        go_roundw
        case rel => exact ⟨k + 1, by omega, by simp, trivial, fun j hj => by
          by_cases e : j = k
          · subst e; exact HX.out
          · exact HZ.out j (by omega)⟩
        case measure => simp [intOf]; omega
      · have h0' : (x != 0) = true := by simp [h0]
        have HR : RowKit.Hid (orC a b c d = x) := Lib.hid (orC_at hlt HZ.out HX.out h0)
        go_wp2
        go_ret
        exact ⟨by rw [HR.out]; rfl, rfl⟩
    · obtain rfl : k = 4 := by omega
      have HR : RowKit.Hid (orC a b c d = 0) := Lib.hid (orC_none hz)
      clear hz
      go_wp2
      go_ret
      exact ⟨by rw [HR.out]; rfl, rfl⟩
end Go.Proofs.Ytlipjaopbhdbeaa

/- bytes.Compare. -/
namespace Go.Proofs.Ytlipjaopbhdbeaa
open Go.RowKit

theorem byteL_back {xs : List Int} (h : ByteL xs) : (Lib.bytesOf xs).map (fun c => (c.toNat : Int)) = xs := by
  unfold Lib.bytesOf
  rw [List.map_map]
  conv => rhs; rw [← List.map_id xs]
  refine List.map_congr_left fun x hx => ?_
  have := h x hx
  simp only [Function.comp, id]
  rw [UInt8.toNat_ofNat']
  omega
theorem compare_nums {xs ys : List Int} (hx : ByteL xs) (hy : ByteL ys) : Lib.compareBytes (Lib.bytesOf xs) (Lib.bytesOf ys) = seqC intC xs ys := by
  rw [← textC_bytes, byteL_back hx, byteL_back hy]
theorem run_bytesOf {w : World} {A : Option Addr} {cap : Nat} {xs : List Int} (h : Rd w w.heap.size .u8 A xs) : (Extern.Bytes.bytesOf (.slice A xs.length cap)).run Try.prog w = .ok ⟨(Lib.bytesOf xs).toArray⟩ w := by
  cases A with
  | none =>
    have hx : xs = [] := by
      rcases xs with _ | ⟨x, r⟩
      · rfl
      · obtain ⟨b, o, h, _⟩ := h (by simp)
        cases h
    subst hx
    rfl
  | some a =>
    by_cases hn : xs = []
    · subst hn
      cases a
      rfl
    · obtain ⟨b, o, hA, _, hc⟩ := h (List.length_pos_iff.2 hn)
      injection hA with hA
      subst hA
      have hl := Lib.run_loadBytesX (P := Try.prog) w xs ⟨b, o, none⟩ .empty (fun j x hj => by
        have hjl : j < xs.length := (List.getElem?_eq_some_iff.1 hj).1
        rw [Addr.add_mid, hc j hjl, List.getD_eq_getElem?_getD, hj]
        rfl)
      show (Extern.Bytes.loadBytes ⟨b, o, none⟩ xs.length .empty).run Try.prog w = _
      rw [hl]
      congr 1
      apply ByteArray.ext
      show (#[] : Array UInt8) ++ (Lib.bytesOf xs).toArray = (Lib.bytesOf xs).toArray
      simp
theorem run_compareSlices {w : World} {A1 A2 : Option Addr} {c1 c2 : Nat} {xs ys : List Int} (h1 : Rd w w.heap.size .u8 A1 xs) (h2 : Rd w w.heap.size .u8 A2 ys) (hx : ByteL xs) (hy : ByteL ys) :
    (Extern.BytealgCompare.compare #[.slice A1 xs.length c1, .slice A2 ys.length c2]).run Try.prog w = .ok (.int .i64 (seqC intC xs ys)) w := by
  change Sem.run Try.prog (do pure (goInt (Extern.BytealgCompare.cmp (← Extern.Bytes.bytesOf (.slice A1 xs.length c1)) (← Extern.Bytes.bytesOf (.slice A2 ys.length c2))))) w = _
  simp only [Sem.run_bind, run_bytesOf h1, run_bytesOf h2, Sem.run_pure, Result.andThen]
  rw [Lib.cmp_eq, ← compare_nums hx hy]
  rfl
set_option maxRecDepth 100000 in
theorem bytes_compare (A1 A2 : Option Addr) (c1 c2 : Nat) (xs ys : List Int) (w : World) (h1 : Rd w w.heap.size .u8 A1 xs) (h2 : Rd w w.heap.size .u8 A2 ys) (hx : ByteL xs) (hy : ByteL ys) :
    Calls Try.prog 28 #[.slice A1 xs.length c1, .slice A2 ys.length c2] w fun e w' => e = .returned (.int .i64 (seqC intC xs ys)) ∧ w' = w := by
  have hr := run_compareSlices (c1 := c1) (c2 := c2) h1 h2 hx hy
  obtain ⟨z, hz⟩ : ∃ z, seqC intC xs ys = z := ⟨_, rfl⟩
  rw [hz] at hr ⊢
  have HR := Lib.hid hr
  clear hr h1 h2 hx hy hz
  go_enter Try.func28, Try.ntmps28
  go_wp2
  rw [run_callFunc_extern Try.func34 (by kernel_rfl) (by kernel_rfl) (by kernel_rfl) (e := Extern.BytealgCompare.compare) (by kernel_rfl), HR.out]
  simp only [Result.andThen]
  rw [Oper.upon_value]
  go_wp2
  go_ret
  exact ⟨rfl, rfl⟩
end Go.Proofs.Ytlipjaopbhdbeaa

/- Plain floats: a format's sign, number and power; what is wide, what is shortest. -/
namespace Go.Proofs.Ytlipjaopbhdbeaa

/-- The formats: width in bytes; the bits of the exponent, of the fraction; the least power (in halves of the least double). -/
inductive Fm : Int → Nat → Nat → Nat → Prop
  | half : Fm 2 5 10 1050
  | single : Fm 4 8 23 925
  | double : Fm 8 11 52 0

def fsg (E F x : Nat) : Nat := x / 2 ^ (E + F) % 2
def fex (E F x : Nat) : Nat := x / 2 ^ F % 2 ^ E
def ffr (F x : Nat) : Nat := x % 2 ^ F
def fnum (E F x : Nat) : Nat := if fex E F x = 0 then ffr F x else ffr F x + 2 ^ F
def fpow (E F O x : Nat) : Nat := fex E F x - 1 + O
/-- The value of a finite float, its sign apart. -/
def fval (E F O x : Nat) : Nat := fnum E F x * 2 ^ fpow E F O x
def fenc (E F O s M q : Nat) : Nat := s * 2 ^ (E + F) + (if M < 2 ^ F then M else (q - O + 1) * 2 ^ F + (M - 2 ^ F))
/-- A number and a power as a form has them. -/
def FNF (F O M q : Nat) : Prop := O ≤ q ∧ M < 2 ^ (F + 1) ∧ (2 ^ F ≤ M ∨ q = O)

section
variable {W : Int} {E F O x y : Nat}
theorem f_split (h : Fm W E F O) (hx : x < 2 ^ (1 + E + F)) : x = fsg E F x * 2 ^ (E + F) + fex E F x * 2 ^ F + ffr F x := by
  cases h <;> simp only [fsg, fex, ffr] at * <;> omega
theorem f_small (h : Fm W E F O) (x : Nat) : fsg E F x < 2 ∧ fex E F x < 2 ^ E ∧ ffr F x < 2 ^ F := by
  cases h <;> simp only [fsg, fex, ffr] <;> omega
/-- Put together out of parts. -/
theorem f_parts (h : Fm W E F O) {s e f : Nat} (hs : s < 2) (he : e < 2 ^ E) (hf : f < 2 ^ F) :
    s * 2 ^ (E + F) + e * 2 ^ F + f < 2 ^ (1 + E + F) ∧ fsg E F (s * 2 ^ (E + F) + e * 2 ^ F + f) = s ∧ fex E F (s * 2 ^ (E + F) + e * 2 ^ F + f) = e ∧ ffr F (s * 2 ^ (E + F) + e * 2 ^ F + f) = f := by
  cases h <;> simp only [fsg, fex, ffr] at * <;> omega
theorem f_nf (h : Fm W E F O) (x : Nat) : FNF F O (fnum E F x) (fpow E F O x) := by
  have := f_small h x
  unfold FNF fnum fpow
  cases h <;> split <;> omega
theorem f_enc (h : Fm W E F O) (hx : x < 2 ^ (1 + E + F)) : fenc E F O (fsg E F x) (fnum E F x) (fpow E F O x) = x := by
  have h1 := f_small h x
  have h2 := f_split h hx
  unfold fenc fnum fpow
  cases h <;> split <;> split <;> omega
/-- What a number and a power are as a form. -/
theorem f_dec (h : Fm W E F O) {s M q : Nat} (hs : s < 2) (hn : FNF F O M q) (hq : q - O + 1 < 2 ^ E - 1) :
    fenc E F O s M q < 2 ^ (1 + E + F) ∧ fsg E F (fenc E F O s M q) = s ∧ fex E F (fenc E F O s M q) < 2 ^ E - 1 ∧ fnum E F (fenc E F O s M q) = M ∧ fpow E F O (fenc E F O s M q) = q := by
  obtain ⟨h1, h2, h3⟩ := hn
  by_cases hM : M < 2 ^ F
  · have e : fenc E F O s M q = s * 2 ^ (E + F) + 0 * 2 ^ F + M := by unfold fenc; rw [if_pos hM]; omega
    have he : 0 < 2 ^ E := Nat.two_pow_pos E
    obtain ⟨p1, p2, p3, p4⟩ := f_parts h hs he hM
    rw [e]
    refine ⟨p1, p2, by omega, ?_, ?_⟩
    · unfold fnum; rw [p3, if_pos rfl, p4]
    · unfold fpow; rw [p3]; omega
  · have e : fenc E F O s M q = s * 2 ^ (E + F) + (q - O + 1) * 2 ^ F + (M - 2 ^ F) := by unfold fenc; rw [if_neg hM]; omega
    have hf : M - 2 ^ F < 2 ^ F := by rw [Nat.pow_succ] at h2; omega
    obtain ⟨p1, p2, p3, p4⟩ := f_parts h hs (show q - O + 1 < 2 ^ E by omega) hf
    rw [e]
    refine ⟨p1, p2, by omega, ?_, ?_⟩
    · unfold fnum; rw [p3, if_neg (by omega), p4]; omega
    · unfold fpow; rw [p3]; omega

theorem nf_low {F O M q M' q' : Nat} (h : FNF F O M q) (h' : FNF F O M' q') (e : M * 2 ^ q = M' * 2 ^ q') : ¬ q < q' := by
  intro hlt
  obtain ⟨a, b, c⟩ := h
  obtain ⟨a', b', c'⟩ := h'
  have hM : 2 ^ F ≤ M' := by omega
  have : q' = q + (q' - q) := by omega
  rw [this, Nat.pow_add, ← Nat.mul_assoc, Nat.mul_right_comm] at e
  have e2 := Nat.eq_of_mul_eq_mul_right (Nat.two_pow_pos q) e
  have hp : 2 ≤ 2 ^ (q' - q) := by
    have := Nat.pow_le_pow_right (show 0 < 2 by decide) (show 1 ≤ q' - q by omega)
    omega
  have := Nat.mul_le_mul hM hp
  rw [Nat.pow_succ] at b
  omega
theorem nf_same {F O M q M' q' : Nat} (h : FNF F O M q) (h' : FNF F O M' q') (e : M * 2 ^ q = M' * 2 ^ q') : M = M' ∧ q = q' := by
  have a := nf_low h h' e
  have b := nf_low h' h e.symm
  have hq : q = q' := by omega
  subst hq
  exact ⟨Nat.eq_of_mul_eq_mul_right (Nat.two_pow_pos q) e, rfl⟩
/-- A form is known by its sign and its value. -/
theorem f_inj (h : Fm W E F O) (hx : x < 2 ^ (1 + E + F)) (hy : y < 2 ^ (1 + E + F)) (hs : fsg E F x = fsg E F y) (hv : fval E F O x = fval E F O y) : x = y := by
  obtain ⟨a, b⟩ := nf_same (f_nf h x) (f_nf h y) hv
  rw [← f_enc h hx, ← f_enc h hy, hs, a, b]

def FNan (E F x : Nat) : Prop := fex E F x = 2 ^ E - 1 ∧ ffr F x ≠ 0
instance instFNan (E F x : Nat) : Decidable (FNan E F x) := by unfold FNan; exact inferInstance
def finf (E F s : Nat) : Nat := s * 2 ^ (E + F) + (2 ^ E - 1) * 2 ^ F
/-- The double x is the form y, wider. -/
def Wide (E F O y x : Nat) : Prop :=
  y < 2 ^ (1 + E + F) ∧ x < 2 ^ 64 ∧ ((FNan E F y ∧ x = 9221120237041090560) ∨ (fex E F y = 2 ^ E - 1 ∧ ffr F y = 0 ∧ x = finf 11 52 (fsg E F y)) ∨
    (fex E F y < 2 ^ E - 1 ∧ fex 11 52 x < 2047 ∧ fsg 11 52 x = fsg E F y ∧ fval 11 52 0 x = fval E F O y))
theorem inf_parts (h : Fm W E F O) {s : Nat} (hs : s < 2) : finf E F s < 2 ^ (1 + E + F) ∧ fsg E F (finf E F s) = s ∧ fex E F (finf E F s) = 2 ^ E - 1 ∧ ffr F (finf E F s) = 0 := by
  have := f_parts h hs (show 2 ^ E - 1 < 2 ^ E by have := Nat.two_pow_pos E; omega) (Nat.two_pow_pos F)
  exact this
theorem inf_of (h : Fm W E F O) (hx : x < 2 ^ (1 + E + F)) (he : fex E F x = 2 ^ E - 1) (hf : ffr F x = 0) : x = finf E F (fsg E F x) := by
  have := f_split h hx
  rw [he, hf] at this
  exact this
theorem nan_wide : FNan 11 52 9221120237041090560 := by unfold FNan fex ffr; decide
theorem wide_fun (_h : Fm W E F O) {x' : Nat} (a : Wide E F O y x) (b : Wide E F O y x') : x = x' := by
  obtain ⟨_, ax, a⟩ := a
  obtain ⟨_, bx, b⟩ := b
  rcases a with ⟨⟨a1, a2⟩, a3⟩ | ⟨a1, a2, a3⟩ | ⟨a1, a2, a3, a4⟩ <;> rcases b with ⟨⟨b1, b2⟩, b3⟩ | ⟨b1, b2, b3⟩ | ⟨b1, b2, b3, b4⟩ <;> first | omega | skip
  exact f_inj .double ax bx (a3.trans b3.symm) (a4.trans b4.symm)
theorem wide_inj (h : Fm W E F O) {y' : Nat} (a : Wide E F O y x) (b : Wide E F O y' x) (hx : ¬ FNan 11 52 x) : y = y' := by
  obtain ⟨ay, ax, a⟩ := a
  obtain ⟨yb, bx, b⟩ := b
  rcases a with ⟨⟨a1, a2⟩, a3⟩ | ⟨a1, a2, a3⟩ | ⟨a1, a2, a3, a4⟩
  · exact absurd (a3 ▸ nan_wide) hx
  all_goals rcases b with ⟨⟨b1, b2⟩, b3⟩ | ⟨b1, b2, b3⟩ | ⟨b1, b2, b3, b4⟩
  · exact absurd (b3 ▸ nan_wide) hx
  · have i1 := inf_parts .double (f_small h y).1
    have i2 := inf_parts .double (f_small h y').1
    rw [← a3] at i1
    rw [← b3] at i2
    rw [inf_of h ay a1 a2, inf_of h yb b1 b2, ← i1.2.1, ← i2.2.1]
  · have i1 := inf_parts .double (f_small h y).1
    rw [← a3] at i1
    omega
  · exact absurd (b3 ▸ nan_wide) hx
  · have i1 := inf_parts .double (f_small h y').1
    rw [← b3] at i1
    omega
  · exact f_inj h ay yb (a3.symm.trans b3) (a4.symm.trans b4)
/-- The shortest form of the double x is z, of v bytes. -/
def Shortest (x z v : Nat) : Prop :=
  (FNan 11 52 x ∧ z = 32256 ∧ v = 2) ∨ (¬ FNan 11 52 x ∧ ((v = 2 ∧ Wide 5 10 1050 z x) ∨ (v = 4 ∧ Wide 8 23 925 z x ∧ ∀ y, ¬ Wide 5 10 1050 y x) ∨
    (v = 8 ∧ z = x ∧ (∀ y, ¬ Wide 5 10 1050 y x) ∧ ∀ y, ¬ Wide 8 23 925 y x)))
theorem shortest_fun {z v z' v' : Nat} (a : Shortest x z v) (b : Shortest x z' v') : z = z' ∧ v = v' := by
  rcases a with ⟨a0, a1, a2⟩ | ⟨a0, a⟩ <;> rcases b with ⟨b0, b1, b2⟩ | ⟨b0, b⟩
  · omega
  · exact absurd a0 b0
  · exact absurd b0 a0
  rcases a with ⟨a1, a2⟩ | ⟨a1, a2, a3⟩ | ⟨a1, a2, a3, a4⟩ <;> rcases b with ⟨b1, b2⟩ | ⟨b1, b2, b3⟩ | ⟨b1, b2, b3, b4⟩
  · exact ⟨wide_inj .half a2 b2 a0, by omega⟩
  · exact absurd a2 (b3 _)
  · exact absurd a2 (b3 _)
  · exact absurd b2 (a3 _)
  · exact ⟨wide_inj .single a2 b2 a0, by omega⟩
  · exact absurd a2 (b4 _)
  · exact absurd b2 (a3 _)
  · exact absurd b2 (a4 _)
  · omega
end
end Go.Proofs.Ytlipjaopbhdbeaa
