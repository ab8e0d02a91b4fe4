/- The document's answer for texts: sign by sign. -/
import Derived.Test.YtmihoeholcaokaaRows
import Derived.Test.YtmihoeholcaokaaKAO
import Derived.RegionTactic
import Derived.Test.YtmihoeholcaokaaKAY
import Derived.Test.YtmihoeholcaokaaKAZ
import Derived.Test.YtmihoeholcaokaaKBA
import Derived.Test.YtmihoeholcaokaaKAP
import Derived.Test.YtmihoeholcaokaaKAC
import Derived.Lib.SmallJoins
import Derived.Deep.Slices
namespace Go.Proofs.Ytmihoeholcaokaa
open Go.RowKit

/-- Is a place's byte one that follows? -/
def isF (s : ByteArray) (k : Nat) : Prop := k < s.size ∧ 128 ≤ sb s k ∧ sb s k ≤ 191
instance (s : ByteArray) (k : Nat) : Decidable (isF s k) := by unfold isF; exact inferInstance
/-- How many follow, of n, from a place on. -/
def ufol (s : ByteArray) (i : Nat) : Nat → Nat
  | 0 => 0
  | n + 1 => if isF s i then 1 + ufol s (i + 1) n else 0
theorem ufol_le (s : ByteArray) : ∀ (n i : Nat), ufol s i n ≤ n
  | 0, _ => Nat.le_refl _
  | n + 1, i => by
    unfold ufol
    split
    · have := ufol_le s n (i + 1); omega
    · omega
theorem ufol_at {s : ByteArray} : ∀ {k n i : Nat}, k ≤ n → (∀ j, j < k → isF s (i + j)) → (k = n ∨ ¬ isF s (i + k)) → ufol s i n = k
  | 0, 0, i, _, _, _ => rfl
  | 0, n + 1, i, _, _, h => by
    unfold ufol
    rw [if_neg (by
      rcases h with h | h
      · omega
      · exact h)]
  | k + 1, 0, _, h, _, _ => by omega
  | k + 1, n + 1, i, h, h1, h2 => by
    unfold ufol
    rw [if_pos (show isF s i from h1 0 (by omega)), ufol_at (k := k) (by omega) (fun j hj => by rw [show i + 1 + j = i + (j + 1) by omega]; exact h1 (j + 1) (by omega)) (by
      rcases h2 with h2 | h2
      · left; omega
      · right; rw [show i + 1 + k = i + (k + 1) by omega]; exact h2)]
    omega

end Go.Proofs.Ytmihoeholcaokaa

/- The document's answer for texts: a sign. -/
namespace Go.Proofs.Ytmihoeholcaokaa
open Go.RowKit
set_option maxRecDepth 100000

/-- A sign's first byte c: it has n bytes, the next one's bounds are lo, hi. -/
def Lead (c : Int) (n : Nat) (lo hi : Int) : Prop :=
  (n = 2 ∧ 194 ≤ c ∧ c ≤ 223 ∧ lo = 128 ∧ hi = 191) ∨ (n = 3 ∧ c = 224 ∧ lo = 160 ∧ hi = 191) ∨ (n = 3 ∧ c = 237 ∧ lo = 128 ∧ hi = 159) ∨ (n = 3 ∧ 225 ≤ c ∧ c ≤ 239 ∧ (c == 237) = false ∧ lo = 128 ∧ hi = 191) ∨
  (n = 4 ∧ c = 240 ∧ lo = 144 ∧ hi = 191) ∨ (n = 4 ∧ c = 244 ∧ lo = 128 ∧ hi = 143) ∨ (n = 4 ∧ 241 ≤ c ∧ c ≤ 243 ∧ lo = 128 ∧ hi = 191)
theorem lead_of {c : Int} {m : Nat} (h : umore c = some (m + 1)) : Lead c (m + 2) (ulo c) (uhi c) := by
  unfold Lead ulo uhi
  rcases umore_some h with ⟨h, r1, r2⟩ | ⟨h, r1, r2⟩ | ⟨h, r1, r2⟩ | ⟨h, r1⟩
  · have hm : m + 2 = 4 := by omega
    by_cases e1 : c = 240
    · subst e1; simp [hm]
    by_cases e2 : c = 244
    · subst e2; simp [hm]
    right; right; right; right; right; right
    rw [if_neg (by omega), if_neg e1, if_neg (by omega), if_neg e2]
    omega
  · have hm : m + 2 = 3 := by omega
    by_cases e1 : c = 224
    · subst e1; simp [hm]
    by_cases e2 : c = 237
    · subst e2; simp [hm]
    right; right; right; left
    rw [if_neg e1, if_neg (by omega), if_neg e2, if_neg (by omega), beq_eq_false_iff_ne]
    omega
  · have hm : m + 2 = 2 := by omega
    left
    rw [if_neg (by omega), if_neg (by omega), if_neg (by omega), if_neg (by omega)]
    omega
  · omega
end Go.Proofs.Ytmihoeholcaokaa

/- The document's answer for texts: what a sign tells of the states. -/
namespace Go.Proofs.Ytmihoeholcaokaa
open Go.RowKit
set_option maxRecDepth 100000

theorem ufol_spec (s : ByteArray) : ∀ (n i : Nat), (∀ j, j < ufol s i n → isF s (i + j)) ∧ (ufol s i n < n → ¬ isF s (i + ufol s i n))
  | 0, i => ⟨fun j hj => by simp [ufol] at hj, fun h => by simp [ufol] at h⟩
  | n + 1, i => by
    obtain ⟨h1, h2⟩ := ufol_spec s n (i + 1)
    by_cases hf : isF s i
    · have e : ufol s i (n + 1) = 1 + ufol s (i + 1) n := by
        show (if isF s i then 1 + ufol s (i + 1) n else 0) = _
        rw [if_pos hf]
      rw [e]
      refine ⟨fun j hj => ?_, fun h => ?_⟩
      · cases j with
        | zero => exact hf
        | succ j => rw [show i + (j + 1) = i + 1 + j by omega]; exact h1 j (by omega)
      · rw [show i + (1 + ufol s (i + 1) n) = i + 1 + ufol s (i + 1) n by omega]
        exact h2 (by omega)
    · have e : ufol s i (n + 1) = 0 := by
        show (if isF s i then 1 + ufol s (i + 1) n else 0) = _
        rw [if_neg hf]
      rw [e]
      exact ⟨fun j hj => by omega, fun _ => hf⟩
/-- The state after p bytes of a text. -/
def uS (s : ByteArray) (p : Nat) : UQ := ust uq0 (sbytes s) p
theorem uS_succ (s : ByteArray) (p : Nat) (h : p < s.size) : uS s (p + 1) = ustep (uS s p) (sb s p) := ust_succ _ _ _ (by rw [length_sbytes]; exact h)
theorem ustep_none {q : UQ} {c : Int} (h : q.left = 0) (hw : q.wr = false) (hm : umore c = none) : (ustep q c).wr = true := by
  unfold ustep; rw [if_neg (by simp [hw]), if_pos h, hm]
theorem ustep_some {q : UQ} {c : Int} {n : Nat} (h : q.left = 0) (hw : q.wr = false) (hm : umore c = some n) : ustep q c = ⟨n, ulo c, uhi c, false⟩ := by
  unfold ustep; rw [if_neg (by simp [hw]), if_pos h, hm]
theorem ustep_bad {n : Nat} {lo hi c : Int} (h : c < lo ∨ hi < c) : (ustep ⟨n + 1, lo, hi, false⟩ c).wr = true := by
  unfold ustep; rw [if_neg (by simp), if_neg (by simp), if_pos h]
theorem ustep_good {n : Nat} {lo hi c : Int} (h : lo ≤ c) (h' : c ≤ hi) : ustep ⟨n + 1, lo, hi, false⟩ c = ⟨n, 128, 191, false⟩ := by
  unfold ustep; rw [if_neg (by simp), if_neg (by simp), if_neg (by show ¬ (c < lo ∨ hi < c); omega)]; rfl
/-- What n and k tell of the sign at place p. -/
def Tells (s : ByteArray) (p n k : Nat) : Prop :=
  (n = 0 ∧ k = 0 ∧ (uS s (p + 1)).wr = true) ∨
  (1 ≤ n ∧ n ≤ 4 ∧ k ≤ n ∧ p + k ≤ s.size ∧ (∀ j, j ≤ k → (uS s (p + j)).wr = false) ∧ (k = n → (uS s (p + k)).left = 0) ∧ (k < n → (uS s (p + k)).left ≠ 0 ∧ (p + k < s.size → (uS s (p + k + 1)).wr = true)))
theorem follows {s : ByteArray} {i m : Nat} (h0 : uS s i = ⟨m, 128, 191, false⟩) : ∀ u, u ≤ m → (∀ j, j < u → isF s (i + j)) → uS s (i + u) = ⟨m - u, 128, 191, false⟩
  | 0, _, _ => h0
  | u + 1, hu, hf => by
    have ih := follows h0 u (by omega) (fun j hj => hf j (by omega))
    obtain ⟨g1, g2, g3⟩ := hf u (by omega)
    rw [show i + (u + 1) = i + u + 1 by omega, uS_succ s _ g1, ih, show m - u = m - (u + 1) + 1 by omega, ustep_good g2 g3]
end Go.Proofs.Ytmihoeholcaokaa

/- The document's answer for texts: First. -/
namespace Go.Proofs.Ytmihoeholcaokaa
open Go.RowKit
set_option maxRecDepth 100000

theorem uS_at {s : ByteArray} (p : Nat) (hp : p < s.size) (h : (uS s p).wr = false) (h' : (uS s (p + 1)).wr = true) : uat uq0 (sbytes s) 0 = p ∧ uok uq0 (sbytes s) = false :=
  ⟨uat_some p (by rw [length_sbytes]; exact hp) h h', uok_wr (k := p + 1) (by rw [length_sbytes]; exact hp) h'⟩
theorem uS_end {s : ByteArray} (h : ∀ j, j ≤ s.size → (uS s j).wr = false) : uat uq0 (sbytes s) 0 = -1 ∧ uok uq0 (sbytes s) = ((uS s s.size).left == 0) := by
  refine ⟨uat_none (fun k hk => h k (by rwa [length_sbytes] at hk)), ?_⟩
  have e : urun uq0 (sbytes s) = uS s s.size := by unfold uS; rw [← length_sbytes, ust_all]
  unfold uok udone
  rw [e, h _ (Nat.le_refl _)]
  rfl
end Go.Proofs.Ytmihoeholcaokaa

/- Package ullageref08: wrong. -/
namespace Go.Proofs.Ytmihoeholcaokaa
open Go.RowKit

theorem evens_get : ∀ (l : List It) (i : Nat), (evens l)[i]? = l[2 * i]?
  | [], i => by simp [evens]
  | [a], 0 => by simp [evens]
  | [a], i + 1 => by simp [evens]
  | a :: b :: r, 0 => by simp [evens]
  | a :: b :: r, i + 1 => by
    rw [evens, List.getElem?_cons_succ, evens_get r i, show 2 * (i + 1) = 2 * i + 1 + 1 by omega, List.getElem?_cons_succ, List.getElem?_cons_succ]
theorem twice_of {l : List It} {i j : Nat} {X : It} (hi : i % 2 = 0) (hj : j % 2 = 0) (hij : i < j) (h1 : l[i]? = some X) (h2 : l[j]? = some X) : twiceB l = true := by
  rw [twiceB_true]
  have g1 := evens_get l (i / 2)
  have g2 := evens_get l (j / 2)
  rw [show 2 * (i / 2) = i by omega, h1] at g1
  rw [show 2 * (j / 2) = j by omega, h2] at g2
  obtain ⟨k1, e1⟩ := List.getElem?_eq_some_iff.1 g1
  obtain ⟨k2, e2⟩ := List.getElem?_eq_some_iff.1 g2
  exact ⟨i / 2, j / 2, by omega, k2, e1.trans e2.symm⟩
theorem not_twice {l : List It} (h : ∀ (i j : Nat) (X : It), i % 2 = 0 → j % 2 = 0 → i < j → l[i]? = some X → l[j]? = some X → False) : twiceB l = false := by
  rw [twiceB_false]
  rintro ⟨i, j, hi, hj, he⟩
  have g1 := evens_get l i
  have g2 := evens_get l j
  rw [List.getElem?_eq_getElem (by omega)] at g1
  rw [List.getElem?_eq_getElem hj, ← he] at g2
  exact h (2 * i) (2 * j) _ (by omega) (by omega) (by omega) g1.symm g2.symm
theorem formK_out {k m : Int} {a b : Bool} (h : k < 0 ∨ 8 < k) : formK k a b m = false := by
  unfold formK
  rw [if_neg (by omega), if_neg (by omega), if_neg (by omega), if_neg (by omega), if_neg (by omega)]
end Go.Proofs.Ytmihoeholcaokaa

/- Package ullageref08: Check. -/
namespace Go.Proofs.Ytmihoeholcaokaa
open Go.RowKit

end Go.Proofs.Ytmihoeholcaokaa

/- An item that came in: how it reads. -/
namespace Go.Proofs.Ytmihoeholcaokaa
open Go.ChangeShapes Go.WideShapes Go.ChangeAt Go.RowKit

theorem AtL.of_items {w : World} {S : Nat → Prop} {b : Nat} (hS : S b) (hb : b < w.heap.size) : ∀ (l : List It) (o : Nat), (∀ i X, l[i]? = some X → At1 w S X b (o + i * 4)) → AtL w S l (some ⟨b, o, none⟩)
  | [], _, _ => AtL.nil _
  | t :: r, o, h => AtL.mk hS hb (by simpa using h 0 t rfl) (AtL.of_items hS hb r (o + 4) fun i X hX => by
    have := h (i + 1) X (by simpa using hX)
    rwa [show o + (i + 1) * 4 = o + 4 + i * 4 by omega] at this)
theorem itemsL_mem {p : Nat × It} : ∀ {l : List It} {d : Nat}, p ∈ itemsL l d → ∃ X ∈ l, p ∈ X.items d
  | [], d, h => by simp [itemsL] at h
  | t :: r, d, h => by
    rw [itemsL] at h
    rcases List.mem_append.1 h with h | h
    · exact ⟨t, by simp, h⟩
    · obtain ⟨X, hX, hp⟩ := itemsL_mem h
      exact ⟨X, by simp [hX], hp⟩
/-- An item's numbers and texts are as great as they can be, and it is no greater than N. -/
def okI (N : Nat) (t : It) : Prop := t.count ≤ N ∧ ∀ d p, p ∈ t.items d → 0 ≤ p.2.n ∧ p.2.n < 18446744073709551616 ∧ p.2.s.size ≤ N
theorem countL_bulk {H : Type} : ∀ (ts : List It) (ds : List (DataW H)), ts.length = ds.length → (∀ (i : Nat) (t : It) (d : DataW H), ts[i]? = some t → ds[i]? = some d → t.count ≤ Rows.uptoBulk d) → countL ts ≤ Rows.uptoBulkAll ds
  | [], [], _, _ => by simp [countL]
  | t :: ts, d :: ds, hl, h => by
    have h0 := h 0 t d rfl rfl
    have ih := countL_bulk ts ds (by simpa using hl) fun i t d h1 h2 => h (i + 1) t d (by simpa using h1) (by simpa using h2)
    simp only [countL, Rows.uptoBulkAll]
    omega
theorem bulk_mem {H : Type} {d : DataW H} : ∀ {ds : List (DataW H)}, d ∈ ds → Rows.uptoBulk d ≤ Rows.uptoBulkAll ds
  | x :: ds, h => by
    simp only [Rows.uptoBulkAll]
    rcases List.mem_cons.1 h with rfl | h
    · omega
    · have := bulk_mem h; omega
theorem bulk_one {H : Type} (l : Lit) : 1 ≤ Rows.uptoBulk (DataW.lit (H := H) l) := by cases l <;> simp [Rows.uptoBulk]
section
variable {H : Type} {enc : TypeId × Value → H} {W : World}
set_option maxRecDepth 100000 in
theorem trod_item : ∀ (f : Nat) (cs : List Value) (x : DataW H × List MemPlace), DataW.trod enc Try.prog W 0 (fun _ => true) true f 39 cs = some x →
    ∃ t A cap, cs = ic t A cap ∧ AtV W t A cap ∧ okI (Rows.uptoBulk x.1) t := by
  intro f
  induction f using Nat.strongRecOn with
  | _ f IH =>
    intro cs x h
    obtain ⟨xs, m, rfl, rfl, hl, hlen, hf⟩ := DataW.trod_struct Try.underlying39 h
    have hC : Try.prog.cellsOf 39 = 4 := by kernel_rfl
    rw [hC] at hl
    obtain ⟨c0, c1, c2, c3, rfl⟩ : ∃ c0 c1 c2 c3, cs = [c0, c1, c2, c3] := by
      match cs, hl with
      | [c0, c1, c2, c3], _ => exact ⟨c0, c1, c2, c3, rfl⟩
    obtain ⟨y0, y1, y2, y3, rfl⟩ : ∃ y0 y1 y2 y3, xs = [y0, y1, y2, y3] := by
      match xs, hlen with
      | [y0, y1, y2, y3], _ => exact ⟨y0, y1, y2, y3, rfl⟩
    have g0 := hf 0 _ rfl
    have g1 := hf 1 _ rfl
    have g2 := hf 2 _ rfl
    have g3 := hf 3 _ rfl
    have k0 : Try.prog.cellsOf 3 = 1 := by kernel_rfl
    have k1 : Try.prog.cellsOf 25 = 1 := by kernel_rfl
    have k2 : Try.prog.cellsOf 9 = 1 := by kernel_rfl
    have k3 : Try.prog.cellsOf 37 = 1 := by kernel_rfl
    simp [k0, k1, k2, k3] at g0 g1 g2 g3
    obtain ⟨k, e0, rfl, _⟩ := DataW.trod_int Try.underlying3 g0
    obtain ⟨n, e1, rfl, hn⟩ := DataW.trod_int Try.underlying25 g1
    obtain ⟨s, e2, rfl, _⟩ := DataW.trod_string Try.underlying9 g2
    injection e0 with e0
    injection e1 with e1
    injection e2 with e2
    subst e0 e1 e2
    have hn' : 0 ≤ n ∧ n < 18446744073709551616 := by
      simp [Lit.wf, IntKind.min, IntKind.max, IntKind.signed, IntKind.bits] at hn
      omega
    have hb : Rows.uptoBulk (DataW.agg (H := H) [.lit (.int .i64 k), .lit (.int .u64 n), .lit (.string s.data.toList), y3.1]) = s.size + Rows.uptoBulk y3.1 + 4 := by
      simp [Rows.uptoBulk, Rows.uptoBulkAll]
      omega
    suffices Hs : ∃ (l : List It) (A : Option Addr) (cap : Nat), c3 = .slice A l.length cap ∧ l.length ≤ cap ∧ (A = none → cap = 0) ∧ AtL W (fun _ => True) l A ∧ countL l + 1 ≤ Rows.uptoBulk y3.1 ∧
        ∀ d p, p ∈ itemsL l d → 0 ≤ p.2.n ∧ p.2.n < 18446744073709551616 ∧ p.2.s.size ≤ Rows.uptoBulk y3.1 by
      obtain ⟨l, A, cap, rfl, h1, h2, h3, h4, h5⟩ := Hs
      refine ⟨.mk k n s l, A, cap, rfl, ⟨h1, h2, h3⟩, ?_, fun d p hp => ?_⟩
      · simp only [List.map_cons, List.map_nil]
        rw [hb]
        simp only [It.count]
        omega
      · simp only [List.map_cons, List.map_nil]
        rw [hb]
        rw [It.items_eq] at hp
        rcases List.mem_cons.1 hp with rfl | hp
        · exact ⟨hn'.1, hn'.2, by show s.size ≤ _; omega⟩
        · have := h5 _ p hp
          omega
    rcases DataW.trod_slice Try.underlying37 g3 with ⟨hcs, hy⟩ | ⟨a, len, cap, elems, rest, q, hq, hcs, hy, _, hle, hm, hel, hall, _, _⟩
    · injection hcs with hcs
      subst hcs
      subst hy
      exact ⟨[], none, 0, rfl, by simp, fun _ => rfl, AtL.nil _, by simp [countL, Rows.uptoBulk], fun d p hp => by simp [itemsL] at hp⟩
    · injection hcs with hcs
      subst hcs
      rw [hC] at hall
      have each : ∀ i, i < len → ∃ z : It × Option Addr × Nat × (DataW H × List MemPlace), elems[i]? = some z.2.2.2 ∧ (∃ cs', W.cells? 0 (a.add (i * 4)) 4 = some cs' ∧ cs' = ic z.1 z.2.1 z.2.2.1) ∧ AtV W z.1 z.2.1 z.2.2.1 ∧ okI (Rows.uptoBulk z.2.2.2.1) z.1 := by
        intro i hi
        have := hall i hi
        rw [List.getElem?_eq_getElem (by omega)] at this
        obtain ⟨cs', h1, h2⟩ := Option.bind_eq_some_iff.1 this
        obtain ⟨t, A, c, h3, h4, h5⟩ := IH q (by omega) cs' _ h2
        exact ⟨(t, A, c, elems[i]), List.getElem?_eq_getElem (by omega), ⟨cs', h1, h3⟩, h4, h5⟩
      obtain ⟨z, hz⟩ := Go.Deep.choose_lt (α := It × Option Addr × Nat × (DataW H × List MemPlace)) each
      have hget : ∀ i X, ((List.range len).map fun i => (z i).1)[i]? = some X → i < len ∧ X = (z i).1 := fun i X hX => by
        rw [List.getElem?_map] at hX
        rcases Nat.lt_or_ge i len with h | h
        · simp [h] at hX
          exact ⟨h, hX.symm⟩
        · rw [List.getElem?_eq_none (by simpa using h)] at hX
          cases hX
      have hbs : Rows.uptoBulkAll (elems.map (·.1)) + 1 ≤ Rows.uptoBulk y3.1 := by
        rw [hy]
        simp only [Rows.uptoBulk]
        omega
      refine ⟨(List.range len).map fun i => (z i).1, some a, cap, by simp, by simpa using hle, (fun h => by cases h), ?_, ?_, ?_⟩
      · by_cases h0 : len = 0
        · subst h0; exact AtL.nil _
        · have cell : ∀ i, i < len → ∀ j u, (ic (z i).1 (z i).2.1 (z i).2.2.1)[j]? = some u → W.cell? (a.add (i * 4 + j)) = some u := fun i hi j u hu => by
            obtain ⟨_, ⟨cs', h1, h2⟩, _⟩ := hz i hi
            obtain ⟨_, hlen', hc⟩ := World.cells?_some h1
            have hj : j < 4 := by
              rcases Nat.lt_or_ge j (ic (z i).1 (z i).2.1 (z i).2.2.1).length with h | h
              · simpa [ic] using h
              · rw [List.getElem?_eq_none h] at hu; cases hu
            have := hc j hj
            rw [Go.Deep.add_add] at this
            rw [this, h2]
            exact hu
          have f0 := cell 0 (by omega) 0 _ rfl
          obtain ⟨b, off, spot⟩ := a
          have hspot : spot = none := by simpa [Addr.add] using World.cell?_spot f0
          subst hspot
          rw [Addr.add_mid] at f0
          refine AtL.of_items trivial (block_lt_of_cell f0) _ off fun i X hX => ?_
          obtain ⟨hi, rfl⟩ := hget i X hX
          obtain ⟨_, _, hv, _⟩ := hz i hi
          have e0 := cell i hi 0 _ rfl
          have e1 := cell i hi 1 _ rfl
          have e2 := cell i hi 2 _ rfl
          have e3 := cell i hi 3 _ rfl
          rw [Addr.add_mid] at e0 e1 e2 e3
          exact At1.mk _ _ e0 e1 e2 e3 hv.le hv.nil hv.at_
      · refine Nat.le_trans (Nat.succ_le_succ (countL_bulk _ (elems.map (·.1)) (by simp [hel]) fun i t d ht hd => ?_)) hbs
        obtain ⟨hi, rfl⟩ := hget i t ht
        obtain ⟨h1, _, _, h2⟩ := hz i hi
        rw [List.getElem?_map, h1] at hd
        injection hd with hd
        rw [← hd]
        exact h2.1
      · intro d p hp
        obtain ⟨X, hX, hp⟩ := itemsL_mem hp
        obtain ⟨i, hi, rfl⟩ := List.mem_map.1 hX
        rw [List.mem_range] at hi
        obtain ⟨h1, _, _, h2⟩ := hz i hi
        have h3 := h2.2 d p hp
        have h4 := bulk_mem (d := (z i).2.2.2.1) (ds := elems.map (·.1)) (List.mem_map.2 ⟨_, List.mem_of_getElem? h1, rfl⟩)
        exact ⟨h3.1, h3.2.1, by omega⟩
set_option maxRecDepth 100000 in
/-- An item among the arguments. -/
theorem open_item {b0 : Nat} {v : Value} {d : DataW H} {ps : List MemPlace} (hval : Value.okWide Try.prog W .any b0 39 v) (hd : DataW.Trod enc Try.prog W 0 (fun _ => true) true 39 v d ps) :
    ∃ t A cap, v = vI t A cap ∧ AtV W t A cap ∧ okI (Rows.uptoBulk d) t := by
  obtain ⟨cs, rfl, _⟩ := okWide_struct Try.underlying39 hval
  obtain ⟨fuel, hf⟩ := hd
  obtain ⟨t, A, cap, h1, h2, h3⟩ := trod_item fuel _ _ hf
  refine ⟨t, A, cap, ?_, h2, h3⟩
  have : cs = (ic t A cap).toArray := by
    apply Array.ext'
    simpa [Value.cells] using h1
  rw [this]
  rfl
end
end Go.Proofs.Ytmihoeholcaokaa
