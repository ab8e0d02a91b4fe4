/- Slices that are cut and copied, whatever their memory, if it isn't that of block g. -/
import Derived.Test.YtmihoeholcaokaaKAA
import Derived.Laws.IdiomCopy
import Derived.Test.YtmihoeholcaokaaKAD
import Derived.Lib.Bytealg
import Derived.Test.YtmihoeholcaokaaChecked
namespace Go.Proofs.Ytmihoeholcaokaa
open Go.RowKit

/-- In w the memory at A, in no way in block g, reads as the numbers zs of kind k. -/
def RdX (w : World) (g : Nat) (k : IntKind) (A : Option Addr) (zs : List Int) : Prop :=
  0 < zs.length → ∃ b o, A = some ⟨b, o, none⟩ ∧ b ≠ g ∧ b < w.heap.size ∧ ∀ i, i < zs.length → w.cell? ⟨b, o + i, none⟩ = some (.int k (zs.getD i 0))
section
variable {w w' : World} {B g : Nat} {k : IntKind} {A : Option Addr} {zs : List Int}
theorem RdX.only (h : RdX w g k A zs) (ho : Only g w w') : RdX w' g k A zs := fun hn => by
  obtain ⟨b, o, hA, hb, hs, hc⟩ := h hn
  refine ⟨b, o, hA, hb, Nat.lt_of_lt_of_le hs ho.size, fun i hi => ?_⟩
  rw [← hc i hi]
  simp [World.cell?, ho.block b hs (fun e => hb (by injection e))]
theorem RdX.below (h : RdX w g k A zs) (hb : Below w.heap.size w w') : RdX w' g k A zs := h.only (Only.ofBelow hb)
theorem RdX.drew (h : RdX w g k A zs) : RdX w.drew g k A zs := h
/-- Kept while another block turns. -/
theorem RdX.other {j : Nat} (h : RdX w g k A zs) (h' : RdX w j k A zs) (ho : Only j w w') : RdX w' g k A zs := fun hn => by
  obtain ⟨b, o, hA, hb, hs, hc⟩ := h hn
  obtain ⟨b', o', hA', hb', _, _⟩ := h' hn
  rw [hA] at hA'
  injection hA' with e
  injection e with e1 e2
  subst e1 e2
  refine ⟨b, o, hA, hb, Nat.lt_of_lt_of_le hs ho.size, fun i hi => ?_⟩
  rw [← hc i hi]
  simp [World.cell?, ho.block b hs (fun e => hb' (by injection e))]
theorem Rd.x (h : Rd w B k A zs) (hg : B ≤ g) (hs : B ≤ w.heap.size) : RdX w g k A zs := fun hn => by
  obtain ⟨b, o, hA, hb, hc⟩ := h hn
  exact ⟨b, o, hA, by omega, by omega, hc⟩
theorem RdX.rd (h : RdX w g k A zs) : Rd w w.heap.size k A zs := fun hn => by
  obtain ⟨b, o, hA, _, hs, hc⟩ := h hn
  exact ⟨b, o, hA, hs, hc⟩
theorem Blk.rdx {j : Nat} {t : TypeId} (h : Blk w j t (nums k zs)) (hj : j ≠ g) : RdX w g k (some ⟨j, 0, none⟩) zs :=
  fun _ => ⟨j, 0, rfl, hj, h.lt, fun i hi => by rw [Nat.zero_add, h.cell, nums_get k zs i hi]⟩
theorem RdX.nil : RdX w g k A [] := fun h => absurd h (by simp)
end

/-- The address of a slice that is cut n on. -/
def cutA (A : Option Addr) (n cap : Nat) : Option Addr := if cap = n then A else A.map (·.add n)
theorem getD_drop (zs : List Int) (n i : Nat) : (zs.drop n).getD i 0 = zs.getD (n + i) 0 := by
  simp [List.getD_eq_getElem?_getD, List.getElem?_drop]
theorem getD_take (zs : List Int) (n i : Nat) (h : i < n) : (zs.take n).getD i 0 = zs.getD i 0 := by
  simp [List.getD_eq_getElem?_getD, h]
theorem RdX.cut {w : World} {g : Nat} {k : IntKind} {A : Option Addr} {zs : List Int} (h : RdX w g k A zs) (n cap : Nat) (hc : zs.length ≤ cap) : RdX w g k (cutA A n cap) (zs.drop n) := fun hn => by
  rw [List.length_drop] at hn
  obtain ⟨b, o, rfl, hb, hs, hcell⟩ := h (by omega)
  refine ⟨b, o + n, ?_, hb, hs, fun i hi => ?_⟩
  · unfold cutA
    rw [if_neg (by omega)]
    show some (Addr.add _ n) = _
    rw [Addr.add_mid]
  · rw [List.length_drop] at hi
    rw [getD_drop, Nat.add_assoc]
    exact hcell (n + i) (by omega)
theorem Rd.cut {w : World} {B : Nat} {k : IntKind} {A : Option Addr} {zs : List Int} (h : Rd w B k A zs) (n cap : Nat) (hc : zs.length ≤ cap) : Rd w B k (cutA A n cap) (zs.drop n) := fun hn => by
  rw [List.length_drop] at hn
  obtain ⟨b, o, rfl, hb, hcell⟩ := h (by omega)
  refine ⟨b, o + n, ?_, hb, fun i hi => ?_⟩
  · unfold cutA
    rw [if_neg (by omega)]
    show some (Addr.add _ n) = _
    rw [Addr.add_mid]
  · rw [List.length_drop] at hi
    rw [getD_drop, Nat.add_assoc]
    exact hcell (n + i) (by omega)

section
variable {P : Program}
theorem run_cut {t elem : TypeId} (hu : P.underlying t = some (.slice elem)) (hs : (P.info? elem).map (·.size) = some 1) (w : World) (A : Option Addr) (len cap n : Nat) (ni : Int) (hni : ni = n) (hn : n ≤ len) :
    (Instr.sliceAt t (.slice A len cap) (some (.int .i64 ni)) none none).run P w = .ok (.slice (cutA A n cap) (len - n) (cap - n)) w := by
  subst hni
  have hz : ∀ w, (sizeOf elem).run P w = .ok 1 w := fun w => by
    cases hq : P.info? elem with
    | none => simp [hq] at hs
    | some i =>
      have : i.size = 1 := by simpa [hq] using hs
      simp [sizeOf, typeInfo, hq, this]
  have he : P.elem t = elem := by simp [Program.elem, hu]
  rw [run_sliceAt_slice w t _ _ _ _ (by rw [he]; exact hu), run_slice_l w t A len cap (by rw [he]; exact hu) .i64 n (by omega) (by omega), he, hz]
  simp [sliced, cutA]

/-- copy into block g, from o on. -/
theorem run_copy_blk {dT sT ty elem t : TypeId} {w : World} {g o n c : Nat} {cur : Array Value} {A : Option Addr} {zs : List Int} {cap : Nat} {k : IntKind} (hu : P.underlying dT = some (.slice elem)) (hs : (P.info? elem).map (·.size) = some 1)
    (hg : Blk w g t cur) (hr : RdX w g k A zs) (hfit : o + n ≤ cur.size) :
    (Builtin.copy_ #[dT, sT] ty #[.slice (some ⟨g, o, none⟩) n c, .slice A zs.length cap]).run P w =
      .ok (goInt (Nat.min zs.length n)) (w.setRow g (cur.toList.take o ++ (zs.take n).map (Value.int k) ++ cur.toList.drop (o + Nat.min zs.length n)).toArray) := by
  have hlen : (zs.take n).length = Nat.min zs.length n := by rw [List.length_take]; exact Nat.min_comm _ _
  by_cases h0 : Nat.min zs.length n = 0
  · rw [run_copy_none _ dT sT ty elem _ _ _ _ _ _ hu hs h0, h0]
    have e : zs.take n = [] := List.eq_nil_of_length_eq_zero (by rw [hlen]; exact h0)
    rw [e]
    simp only [List.map_nil, List.append_nil, Nat.add_zero, List.take_append_drop, Array.toArray_toList]
    rw [setRow_self w g cur t _ hg]
    rfl
  · have h0' : min zs.length n ≠ 0 := h0
    obtain ⟨b, p, rfl, hb, hsz, hc⟩ := hr (by omega)
    have hm : Nat.min zs.length n ≤ n := Nat.min_le_right _ _
    rw [run_copy_row (P := P) _ dT sT ty elem g o n c ⟨b, p, none⟩ zs.length cap cur t ((zs.take n).map (Value.int k)) hu hs hg (by rw [List.length_map]; exact hlen) ?_ (by rw [List.length_map, hlen]; omega) ?_]
    · rw [List.length_map, hlen]
    · intro j v hj
      rw [List.getElem?_map] at hj
      have hj' : j < (zs.take n).length := by
        rcases Nat.lt_or_ge j (zs.take n).length with h | h
        · exact h
        · rw [List.getElem?_eq_none h] at hj; cases hj
      rw [List.length_take] at hj'
      have hv := hc j (by omega)
      rw [List.getElem?_take, if_pos (by omega)] at hj
      have e : zs[j]? = some (zs.getD j 0) := by simp [List.getD_eq_getElem?_getD, show j < zs.length by omega]
      rw [e] at hj
      simp only [Option.map_some, Option.some.injEq] at hj
      subst hj
      rw [Addr.add_mid]
      exact hv
    · intro v hv
      rw [List.mem_map] at hv
      obtain ⟨c, _, rfl⟩ := hv
      rfl
end
end Go.Proofs.Ytmihoeholcaokaa

/- Items in memory. -/
namespace Go.Proofs.Ytmihoeholcaokaa
open Go.RowKit

mutual
/-- An item's four cells lie at b, o; its items where its list says; all in blocks of S. -/
def At1 (w : World) (S : Nat → Prop) : It → Nat → Nat → Prop
  | .mk k n s l, b, o => ∃ A cap, w.cell? ⟨b, o, none⟩ = some (.int .i64 k) ∧ w.cell? ⟨b, o + 1, none⟩ = some (.int .u64 n) ∧ w.cell? ⟨b, o + 2, none⟩ = some (.string s) ∧
      w.cell? ⟨b, o + 3, none⟩ = some (.slice A l.length cap) ∧ l.length ≤ cap ∧ (A = none → cap = 0) ∧ AtL w S l A
/-- A list of items, one behind the other, from A on. -/
def AtL (w : World) (S : Nat → Prop) : List It → Option Addr → Prop
  | [], _ => True
  | t :: r, A => ∃ b o, A = some ⟨b, o, none⟩ ∧ S b ∧ b < w.heap.size ∧ At1 w S t b o ∧ AtL w S r (some ⟨b, o + 4, none⟩)
end
section
variable {w w' : World} {S S' : Nat → Prop}
theorem At1.parts {t : It} {b o : Nat} (h : At1 w S t b o) : ∃ A cap, w.cell? ⟨b, o, none⟩ = some (.int .i64 t.k) ∧ w.cell? ⟨b, o + 1, none⟩ = some (.int .u64 t.n) ∧ w.cell? ⟨b, o + 2, none⟩ = some (.string t.s) ∧
      w.cell? ⟨b, o + 3, none⟩ = some (.slice A t.l.length cap) ∧ t.l.length ≤ cap ∧ (A = none → cap = 0) ∧ AtL w S t.l A := by
  cases t with | mk k n s l => simpa only [At1, It.k, It.n, It.s, It.l] using h
theorem At1.mk {t : It} {b o : Nat} (A : Option Addr) (cap : Nat) (h0 : w.cell? ⟨b, o, none⟩ = some (.int .i64 t.k)) (h1 : w.cell? ⟨b, o + 1, none⟩ = some (.int .u64 t.n)) (h2 : w.cell? ⟨b, o + 2, none⟩ = some (.string t.s))
    (h3 : w.cell? ⟨b, o + 3, none⟩ = some (.slice A t.l.length cap)) (h4 : t.l.length ≤ cap) (h5 : A = none → cap = 0) (h6 : AtL w S t.l A) : At1 w S t b o := by
  cases t with | mk k n s l => simp only [At1]; exact ⟨A, cap, h0, h1, h2, h3, h4, h5, h6⟩
theorem AtL.nil (A : Option Addr) : AtL w S [] A := by simp [AtL]
theorem AtL.cons {t : It} {r : List It} {A : Option Addr} (h : AtL w S (t :: r) A) : ∃ b o, A = some ⟨b, o, none⟩ ∧ S b ∧ b < w.heap.size ∧ At1 w S t b o ∧ AtL w S r (some ⟨b, o + 4, none⟩) := by simpa only [AtL] using h
theorem AtL.mk {t : It} {r : List It} {b o : Nat} (h1 : S b) (h2 : b < w.heap.size) (h3 : At1 w S t b o) (h4 : AtL w S r (some ⟨b, o + 4, none⟩)) : AtL w S (t :: r) (some ⟨b, o, none⟩) := by
  simp only [AtL]; exact ⟨b, o, rfl, h1, h2, h3, h4⟩
theorem cell_kept' {b o : Nat} {v : Value} (h : w'.heap[b]? = w.heap[b]?) (hc : w.cell? ⟨b, o, none⟩ = some v) : w'.cell? ⟨b, o, none⟩ = some v := by
  rw [World.cell?_of_block (w := w) (a := ⟨b, o, none⟩) h]; exact hc
theorem lt_kept {b : Nat} (h : w'.heap[b]? = w.heap[b]?) (hb : b < w.heap.size) : b < w'.heap.size := by
  have e : w'.heap[b]? = some w.heap[b] := h.trans (Array.getElem?_eq_getElem hb)
  exact (Array.getElem?_eq_some_iff.1 e).1
mutual
theorem At1.keep (hk : ∀ b, S b → b < w.heap.size → w'.heap[b]? = w.heap[b]?) (hS : ∀ b, S b → S' b) : ∀ (t : It) (b o : Nat), S b → b < w.heap.size → At1 w S t b o → At1 w' S' t b o
  | .mk k n s l, b, o, hs, hb, h => by
    simp only [At1] at h ⊢
    obtain ⟨A, cap, h0, h1, h2, h3, h4, h5, h6⟩ := h
    have e := hk b hs hb
    exact ⟨A, cap, cell_kept' e h0, cell_kept' e h1, cell_kept' e h2, cell_kept' e h3, h4, h5, AtL.keep hk hS l A h6⟩
theorem AtL.keep (hk : ∀ b, S b → b < w.heap.size → w'.heap[b]? = w.heap[b]?) (hS : ∀ b, S b → S' b) : ∀ (l : List It) (A : Option Addr), AtL w S l A → AtL w' S' l A
  | [], A, _ => AtL.nil A
  | t :: r, A, h => by
    simp only [AtL] at h ⊢
    obtain ⟨b, o, rfl, h1, h2, h3, h4⟩ := h
    exact ⟨b, o, rfl, hS b h1, lt_kept (hk b h1 h2) h2, At1.keep hk hS t b o h1 h2 h3, AtL.keep hk hS r _ h4⟩
end
/-- What lay below the heap's size lies as it lay. -/
theorem AtL.on {l : List It} {A : Option Addr} (h : AtL w S l A) (hb : Below w.heap.size w w') : AtL w' S l A := AtL.keep (fun b _ hlt => hb.block b hlt) (fun _ h => h) l A h
theorem AtL.alloc {l : List It} {A : Option Addr} (h : AtL w S l A) (ob : Obj) : AtL (w.alloc ob) S l A := h.on (below_alloc w ob)
theorem AtL.drew {l : List It} {A : Option Addr} (h : AtL w S l A) : AtL w.drew S l A := AtL.keep (w := w) (w' := w.drew) (fun _ _ _ => rfl) (fun _ h => h) l A h
theorem AtL.drewN {l : List It} {A : Option Addr} (h : AtL w S l A) (n : Nat) : AtL (w.drewN n) S l A := AtL.keep (w := w) (w' := w.drewN n) (fun _ _ _ => rfl) (fun _ h => h) l A h
theorem AtL.more {l : List It} {A : Option Addr} (h : AtL w S l A) (hS : ∀ b, S b → S' b) : AtL w S' l A := AtL.keep (fun _ _ _ => rfl) hS l A h
theorem AtL.drop {l : List It} {b o : Nat} (h : AtL w S l (some ⟨b, o, none⟩)) : ∀ i, AtL w S (l.drop i) (some ⟨b, o + 4 * i, none⟩) := by
  intro i
  induction i generalizing l o with
  | zero => simpa using h
  | succ i ih =>
    cases l with
    | nil => simpa using AtL.nil _
    | cons t r =>
      obtain ⟨b', o', e, h1, h2, h3, h4⟩ := h.cons
      injection e with e
      injection e with e1 e2 _
      subst e1; subst e2
      have := ih h4
      rw [show o + 4 * (i + 1) = o + 4 + 4 * i by omega]
      simpa using this
/-- Item number i. -/
theorem AtL.get {l : List It} {A : Option Addr} (h : AtL w S l A) {i : Nat} (hi : i < l.length) : ∃ b o, A = some ⟨b, o, none⟩ ∧ S b ∧ b < w.heap.size ∧ At1 w S l[i] b (o + 4 * i) ∧ AtL w S (l.drop (i + 1)) (some ⟨b, o + 4 * (i + 1), none⟩) := by
  have hne : l ≠ [] := fun e => by subst e; simp at hi
  obtain ⟨t, r, rfl⟩ : ∃ t r, l = t :: r := by cases l with
    | nil => exact absurd rfl hne
    | cons t r => exact ⟨t, r, rfl⟩
  obtain ⟨b, o, rfl, h1, h2, h3, h4⟩ := h.cons
  have hd := AtL.drop (i := i) (AtL.mk h1 h2 h3 h4)
  rw [List.drop_eq_getElem_cons hi] at hd
  obtain ⟨b', o', e, g1, g2, g3, g4⟩ := hd.cons
  injection e with e
  injection e with e1 e2 _
  subst e1; subst e2
  exact ⟨b, o, rfl, g1, g2, g3, g4⟩
/-- The list without its first n: where it lies. -/
def cutI (A : Option Addr) (n cap : Nat) : Option Addr := if cap = n then A else A.map (·.add (n * 4))
theorem AtL.cut {l : List It} {A : Option Addr} (h : AtL w S l A) (n : Nat) {cap : Nat} (hc : l.length ≤ cap) : AtL w S (l.drop n) (cutI A n cap) := by
  unfold cutI
  by_cases hn : n < l.length
  · rw [if_neg (by omega)]
    obtain ⟨b, o, rfl, _⟩ := h.get hn
    have := h.drop n
    rw [Option.map_some, Addr.add_mid, Nat.mul_comm n 4]
    exact this
  · rw [List.drop_of_length_le (by omega)]; exact AtL.nil _
end
end Go.Proofs.Ytmihoeholcaokaa

/- Numbers and texts held against each other; the first that isn't 0. -/
namespace Go.Proofs.Ytmihoeholcaokaa
open Go.RowKit

theorem ByteArray.toNat_list (a : UInt8) : ((a.toNat : Int)) = ((a.toNat : Nat) : Int) := rfl
theorem textC_bytes : ∀ (a b : List UInt8), seqC intC (a.map fun c => (c.toNat : Int)) (b.map fun c => (c.toNat : Int)) = Lib.compareBytes a b := by
  intro a
  induction a with
  | nil => intro b; cases b <;> simp [seqC, Lib.compareBytes]
  | cons x a ih =>
    intro b
    cases b with
    | nil => simp [seqC, Lib.compareBytes]
    | cons y b =>
      simp only [List.map_cons, seqC, Lib.compareBytes, ih b]
      unfold intC
      have h1 : (x < y) ↔ (x.toNat : Int) < (y.toNat : Int) := by rw [UInt8.lt_iff_toNat_lt]; omega
      have h2 : (y < x) ↔ (y.toNat : Int) < (x.toNat : Int) := by rw [UInt8.lt_iff_toNat_lt]; omega
      by_cases p : x < y
      · rw [if_pos (h1.1 p), if_pos p]; rfl
      · rw [if_neg (fun h => p (h1.2 h)), if_neg p]
        by_cases q : y < x
        · rw [if_pos (h2.1 q), if_pos q]; rfl
        · rw [if_neg (fun h => q (h2.2 h)), if_neg q]; rfl
theorem textC_eq (a b : ByteArray) : textC a b = Lib.compareBytes a.data.toList b.data.toList := textC_bytes _ _

theorem cmp_int (a b : Int) (w : World) : Calls Try.prog 53 #[.int .i64 a, .int .i64 b] w fun e w' => e = .returned (.int .i64 (intC a b)) ∧ w' = w := by
  unfold intC
  by_cases h1 : a < b
  · rw [if_pos h1]
    go_enter Try.func53, Try.ntmps53
    go_wp2
    go_ret
    exact ⟨rfl, rfl⟩
  · rw [if_neg h1]
    by_cases h2 : b < a
    · rw [if_pos h2]
      go_enter Try.func53, Try.ntmps53
      go_wp2
      go_ret
      exact ⟨rfl, rfl⟩
    · rw [if_neg h2]
      go_enter Try.func53, Try.ntmps53
      go_wp2
      go_ret
      exact ⟨rfl, rfl⟩
theorem cmp_u64 (a b : Int) (w : World) : Calls Try.prog 54 #[.int .u64 a, .int .u64 b] w fun e w' => e = .returned (.int .i64 (intC a b)) ∧ w' = w := by
  unfold intC
  by_cases h1 : a < b
  · rw [if_pos h1]
    go_enter Try.func54, Try.ntmps54
    go_wp2
    go_ret
    exact ⟨rfl, rfl⟩
  · rw [if_neg h1]
    by_cases h2 : b < a
    · rw [if_pos h2]
      go_enter Try.func54, Try.ntmps54
      go_wp2
      go_ret
      exact ⟨rfl, rfl⟩
    · rw [if_neg h2]
      go_enter Try.func54, Try.ntmps54
      go_wp2
      go_ret
      exact ⟨rfl, rfl⟩
set_option maxRecDepth 100000 in
theorem cmp_string (a b : ByteArray) (w : World) : Calls Try.prog 63 #[.string a, .string b] w fun e w' => e = .returned (.int .i64 (textC a b)) ∧ w' = w := by
  rw [textC_eq]
  go_enter Try.func63, Try.ntmps63
  go_wp2
  rw [run_callFunc_extern Try.func77 (by kernel_rfl) (by kernel_rfl) (by kernel_rfl) (e := Extern.BytealgCompare.compare) (by kernel_rfl), Lib.run_compareString]
  simp only [Result.andThen]
  rw [Oper.upon_value]
  go_wp2
  go_ret
  exact ⟨rfl, rfl⟩
theorem strings_compare (a b : ByteArray) (w : World) : Calls Try.prog 55 #[.string a, .string b] w fun e w' => e = .returned (.int .i64 (textC a b)) ∧ w' = w := by
  go_enter Try.func55, Try.ntmps55
  go_wp2_with (go_at_call 63; refine (cmp_string _ _ _).mono ?_; rintro e w' ⟨rfl, rfl⟩)
  go_ret
  exact ⟨rfl, rfl⟩

def orC (a b c d : Int) : Int := if a ≠ 0 then a else if b ≠ 0 then b else if c ≠ 0 then c else d
theorem oneC_or (x y : It) : oneC x y = orC (intC x.k y.k) (intC x.n y.n) (intC x.l.length y.l.length) (textC x.s y.s) := by
  unfold oneC thenC orC
  rfl
theorem orC_at {a b c d x : Int} {k : Nat} (hk : k < 4) (hz : ∀ j, j < k → [a, b, c, d].getD j 0 = 0) (hx : [a, b, c, d].getD k 0 = x) (h : x ≠ 0) : orC a b c d = x := by
  unfold orC
  have z0 := hz 0
  have z1 := hz 1
  have z2 := hz 2
  rcases (by omega : k = 0 ∨ k = 1 ∨ k = 2 ∨ k = 3) with rfl | rfl | rfl | rfl <;> simp_all
theorem orC_none {a b c d : Int} (hz : ∀ j, j < 4 → [a, b, c, d].getD j 0 = 0) : orC a b c d = 0 := by
  have z0 := hz 0 (by omega)
  have z1 := hz 1 (by omega)
  have z2 := hz 2 (by omega)
  have z3 := hz 3 (by omega)
  clear hz
  unfold orC
  simp_all
set_option maxHeartbeats 1000000 in
theorem cmp_or (a b c d : Int) (w : World) (g : Nat) (hc : ∀ i, i < 4 → w.cell? ⟨g, i, none⟩ = some (.int .i64 ([a, b, c, d].getD i 0))) :
    Calls Try.prog 52 #[.slice (some ⟨g, 0, none⟩) 4 4] w fun e w' => e = .returned (.int .i64 (orC a b c d)) ∧ w' = w := by
  have HC := Lib.hid hc
  clear hc
  go_enter Try.func52, Try.ntmps52
  go_wp2_with fail
  go_loopw [5, 8] (fun v i wr => ∃ k : Nat, k ≤ 4 ∧ i = .int .i64 (k : Int) ∧ wr = w ∧ (∀ j, j < k → [a, b, c, d].getD j 0 = 0)) (fun _ i _ => 4 - (intOf i).toNat)
  case atStart => exact ⟨0, by omega, rfl, rfl, by omega⟩
  case round =>
    obtain ⟨k, hk, rfl, rfl, hz⟩ := hrel
    by_cases hlt : k < 4
    · obtain ⟨x, hx⟩ : ∃ x, [a, b, c, d].getD k 0 = x := ⟨_, rfl⟩
      have hcell := HC.out k hlt
      rw [hx] at hcell
      have HZ := Lib.hid hz
      have HX := Lib.hid hx
      clear hz hx
      by_cases h0 : x = 0
      · subst h0
        go_wp2
        go_roundw
        case rel => exact ⟨k + 1, by omega, by simp, trivial, fun j hj => by
          by_cases e : j = k
          · subst e; exact HX.out
          · exact HZ.out j (by omega)⟩
        case measure => simp [intOf]; omega
      · have h0' : (x != 0) = true := by simp [h0]
        have HR : RowKit.Hid (orC a b c d = x) := Lib.hid (orC_at hlt HZ.out HX.out h0)
        go_wp2
        go_ret
        exact ⟨by rw [HR.out]; rfl, rfl⟩
    · obtain rfl : k = 4 := by omega
      have HR : RowKit.Hid (orC a b c d = 0) := Lib.hid (orC_none hz)
      clear hz
      go_wp2
      go_ret
      exact ⟨by rw [HR.out]; rfl, rfl⟩
end Go.Proofs.Ytmihoeholcaokaa
