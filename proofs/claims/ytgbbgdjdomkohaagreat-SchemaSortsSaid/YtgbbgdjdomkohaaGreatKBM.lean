/- A row of fields that came in: how it reads, whatever its size. -/
import Derived.Test.YtgbbgdjdomkohaaGreatKBK
import Derived.Test.YtgbbgdjdomkohaaGreatKBJ
import Derived.Test.YtgbbgdjdomkohaaGreatRows
import Derived.Test.YtgbbgdjdomkohaaGreatKAV
import Derived.RegionTactic
namespace Go.Proofs.YtgbbgdjdomkohaaGreat
open Go.ChangeShapes Go.WideShapes Go.ChangeAt Go.RowKit

section
variable {H : Type} {enc : TypeId × Value → H} {W : World}
set_option maxRecDepth 100000 in
theorem trod_fieldM {f : Nat} {cs : List Value} {x : DataW H × List MemPlace} (h : DataW.trod enc Tryz.prog W 0 (fun _ => true) true f 27 cs = some x) : ∃ y : Fl, cs = fc y ∧ y.key.size ≤ maxLen := by
  obtain ⟨xs, m, rfl, rfl, hl, hlen, hf⟩ := DataW.trod_struct Tryz.underlying27 h
  have hC : Tryz.prog.cellsOf 27 = 3 := by kernel_rfl
  rw [hC] at hl
  obtain ⟨c0, c1, c2, rfl⟩ : ∃ c0 c1 c2, cs = [c0, c1, c2] := by
    match cs, hl with
    | [c0, c1, c2], _ => exact ⟨c0, c1, c2, rfl⟩
  obtain ⟨y0, y1, y2, rfl⟩ : ∃ y0 y1 y2, xs = [y0, y1, y2] := by
    match xs, hlen with
    | [y0, y1, y2], _ => exact ⟨y0, y1, y2, rfl⟩
  have g0 := hf 0 _ rfl
  have g1 := hf 1 _ rfl
  have g2 := hf 2 _ rfl
  have k0 : Tryz.prog.cellsOf 3 = 1 := by kernel_rfl
  have k1 : Tryz.prog.cellsOf 4 = 1 := by kernel_rfl
  have k2 : Tryz.prog.cellsOf 9 = 1 := by kernel_rfl
  simp [k0, k1, k2] at g0 g1 g2
  obtain ⟨s, e0, rfl, hsz⟩ := DataW.trod_string Tryz.underlying9 g0
  obtain ⟨k, e1, rfl, _⟩ := DataW.trod_int Tryz.underlying3 g1
  obtain ⟨q, e2, rfl⟩ := DataW.trod_bool Tryz.underlying4 g2
  injection e0 with e0
  injection e1 with e1
  injection e2 with e2
  subst e0 e1 e2
  exact ⟨⟨s, k, q⟩, rfl, hsz⟩
set_option maxRecDepth 100000 in
theorem trod_fieldsM {f : Nat} {c : Value} {x : DataW H × List MemPlace} (h : DataW.trod enc Tryz.prog W 0 (fun _ => true) true f 22 [c] = some x) :
    ∃ (fs : List Fl) (A : Option Addr) (cap : Nat), c = .slice A fs.length cap ∧ fs.length ≤ cap ∧ (A = none → cap = 0) ∧ RdF W W.heap.size A fs ∧ (∀ y ∈ fs, y.key.size ≤ maxLen) ∧ fs.length ≤ maxLen := by
  have hC : Tryz.prog.cellsOf 27 = 3 := by kernel_rfl
  rcases DataW.trod_slice Tryz.underlying22 h with ⟨hcs, hy⟩ | ⟨a, len, cap, elems, rest, q, hq, hcs, hy, _, hle, hm, hel, hall, _, _⟩
  · injection hcs with hcs
    subst hcs
    exact ⟨[], none, 0, rfl, Nat.le_refl _, fun _ => rfl, RdF.nil, fun y hy => (by cases hy), Nat.zero_le _⟩
  · injection hcs with hcs
    subst hcs
    rw [hC] at hall
    have each : ∀ i, i < len → ∃ z : Fl × (DataW H × List MemPlace), elems[i]? = some z.2 ∧ (∃ cs', W.cells? 0 (a.add (i * 3)) 3 = some cs' ∧ cs' = fc z.1) ∧ z.1.key.size ≤ maxLen := by
      intro i hi
      have := hall i hi
      rw [List.getElem?_eq_getElem (by omega)] at this
      obtain ⟨cs', h1, h2⟩ := Option.bind_eq_some_iff.1 this
      obtain ⟨y, h3, h4⟩ := trod_fieldM h2
      exact ⟨(y, elems[i]), List.getElem?_eq_getElem (by omega), ⟨cs', h1, h3⟩, h4⟩
    obtain ⟨z, hz⟩ := Go.Deep.choose_lt (α := Fl × (DataW H × List MemPlace)) each
    refine ⟨(List.range len).map fun i => (z i).1, some a, cap, by simp, by simpa using hle, (fun h => by cases h), fun h0 => ?_, fun y hy => ?_, ?_⟩
    · obtain ⟨b, o, rfl, hlt, hc⟩ := rows_at (W := W) (s := 3) (cells := fc) (z := fun i => (z i).1) (fun _ => rfl) (by omega) (fun i hi => (hz i hi).2.1) (by simpa using h0)
      refine ⟨b, o, rfl, hlt, hlt, fun i y hy => ?_⟩
      have hi : i < len := by have := (List.getElem?_eq_some_iff.1 hy).1; simpa using this
      rw [List.getElem?_map, List.getElem?_range hi] at hy
      injection hy with hy
      subst hy
      exact ⟨hc i hi 0 _ rfl, hc i hi 1 _ rfl, hc i hi 2 _ rfl⟩
    · obtain ⟨i, hi, rfl⟩ := List.mem_map.1 hy
      rw [List.mem_range] at hi
      exact (hz i hi).2.2
    · simp only [List.length_map, List.length_range]
      omega
set_option maxRecDepth 100000 in
theorem open_fields {b0 : Nat} {v : Value} {d : DataW H} {ps : List MemPlace} (hval : Value.okWide Tryz.prog W .any b0 22 v) (hd : DataW.Trod enc Tryz.prog W 0 (fun _ => true) true 22 v d ps) :
    ∃ (fs : List Fl) (A : Option Addr) (cap : Nat), v = .slice A fs.length cap ∧ fs.length ≤ cap ∧ (A = none → cap = 0) ∧ RdF W W.heap.size A fs ∧ (∀ y ∈ fs, y.key.size ≤ maxLen) ∧ fs.length ≤ maxLen := by
  obtain ⟨a, len, cap, rfl⟩ := okWide_slice Tryz.underlying22 hval
  obtain ⟨fuel, hf⟩ := hd
  exact trod_fieldsM hf
end
end Go.Proofs.YtgbbgdjdomkohaaGreat

/- The document's example of schemas. -/
namespace Go.Proofs.YtgbbgdjdomkohaaGreat
open Go.RowKit

/-- The example. -/
def aw : List Nd := [⟨10, 0, 0, zIt, [1, 2], []⟩, ⟨3, 0, 9, zIt, [], []⟩, ⟨6, 0, 9, zIt, [2], []⟩]
theorem okI_z : okI 1048576 zIt := by
  refine ⟨by simp [zIt, It.count, countL], fun d p hp => ?_⟩
  simp only [zIt, It.items, itemsL, List.mem_cons, List.not_mem_nil, or_false] at hp
  subst hp
  exact ⟨Int.le_refl _, by show (0 : Int) < _; omega, Nat.zero_le _⟩
theorem aw_ok : ∀ x ∈ aw, okN x := by
  intro x hx
  simp only [aw, List.mem_cons, List.not_mem_nil, or_false] at hx
  rcases hx with rfl | rfl | rfl <;> exact ⟨okI_z, fun y hy => (by cases hy), by simp⟩
theorem keys_nil : keysN [] = 0 := rfl
theorem aw_vals : checkE chI aw = 13 ∧ checkI chI aw = 2 := by
  have e0 : errN chI aw 0 = 0 := by
    rw [errN_some (x := ⟨10, 0, 0, zIt, [1, 2], []⟩) rfl]
    have hf : formN chI ⟨10, 0, 0, zIt, [1, 2], []⟩ = true := by simp [formN, Nd.of, sameN]
    simp [wrongN, hf, rangedN, keys_nil, nameE, namedN, nameB, aw]
  have e1 : errN chI aw 1 = 0 := by
    rw [errN_some (x := ⟨3, 0, 9, zIt, [], []⟩) rfl]
    have hf : formN chI ⟨3, 0, 9, zIt, [], []⟩ = true := by simp [formN, Nd.of, sameN]
    simp [wrongN, hf, rangedN, keys_nil, nameE, namedN]
  have e2 : wrongN chI ⟨6, 0, 9, zIt, [2], []⟩ (2 : Nat) aw.length = 13 := by
    have hf : formN chI ⟨6, 0, 9, zIt, [2], []⟩ = true := by simp [formN, Nd.of, sameN]
    simp [wrongN, hf, rangedN, keys_nil, nameE, namedN, nameB]
  have h := checkE_at (ch := chI) (xs := aw) (k := 2) (by simp [aw]) (fun j hj => by
    rcases (by omega : j = 0 ∨ j = 1) with rfl | rfl
    · exact e0
    · exact e1) rfl (by rw [e2]; decide)
  rw [e2] at h
  exact h
def awc : Nat → Array Value := fun g => #[.int .i64 10, .int .i64 0, .int .i64 0, .int .i64 0, .int .u64 0, .string ⟨#[]⟩, .slice none 0 0, .slice (some ⟨g, 0, none⟩) 2 2, .slice none 0 0,
  .int .i64 3, .int .i64 0, .int .i64 9, .int .i64 0, .int .u64 0, .string ⟨#[]⟩, .slice none 0 0, .slice none 0 0, .slice none 0 0,
  .int .i64 6, .int .i64 0, .int .i64 9, .int .i64 0, .int .u64 0, .string ⟨#[]⟩, .slice none 0 0, .slice (some ⟨g + 1, 0, none⟩) 1 1, .slice none 0 0]
theorem aw_at (w : World) : ∃ w1, ((w.alloc (.cells #[.int .i64 1, .int .i64 2] 3)).alloc (.cells #[.int .i64 2] 3)).alloc (.cells (awc w.heap.size) 34) = w1 ∧ RdN w1 w1.heap.size (some ⟨w.heap.size + 2, 0, none⟩) aw ∧ Below w.heap.size w w1 := by
  refine ⟨_, rfl, ?_, ((below_alloc w _).alloc (by simp) _).alloc (by simp; omega) _⟩
  have b0 := ((Blk.fresh w 3 (nums .i64 [1, 2])).alloc (.cells #[.int .i64 2] 3)).alloc (.cells (awc w.heap.size) 34)
  have b1 := (Blk.freshAt (w.alloc (.cells #[.int .i64 1, .int .i64 2] 3)) 3 (nums .i64 [2]) (w.heap.size + 1) (by simp)).alloc (.cells (awc w.heap.size) 34)
  have b2 := Blk.freshAt ((w.alloc (.cells #[.int .i64 1, .int .i64 2] 3)).alloc (.cells #[.int .i64 2] 3)) 34 (awc w.heap.size) (w.heap.size + 2) (by simp)
  intro _
  refine ⟨w.heap.size + 2, 0, rfl, b2.lt, b2.lt, fun i x hx => ?_⟩
  have hi := (List.getElem?_eq_some_iff.1 hx).1
  have r0 := b0.rd
  have r1 := b1.rd
  rcases (by simp [aw] at hi; omega : i = 0 ∨ i = 1 ∨ i = 2) with rfl | rfl | rfl
  · obtain rfl : (⟨10, 0, 0, zIt, [1, 2], []⟩ : Nd) = x := by injection hx
    refine ⟨⟨none, 0, some ⟨w.heap.size, 0, none⟩, 2, none, 0⟩, ⟨zIt_at _ _, r0, Nat.le_refl _, (fun h => by cases h), RdF.nil, Nat.le_refl _, fun _ => rfl⟩, fun j u hu => ?_⟩
    rw [b2.cell]
    have hj := (Array.getElem?_eq_some_iff.1 hu).1
    simp [nc] at hj
    rcases (by omega : j = 0 ∨ j = 1 ∨ j = 2 ∨ j = 3 ∨ j = 4 ∨ j = 5 ∨ j = 6 ∨ j = 7 ∨ j = 8) with rfl | rfl | rfl | rfl | rfl | rfl | rfl | rfl | rfl <;> exact hu
  · obtain rfl : (⟨3, 0, 9, zIt, [], []⟩ : Nd) = x := by injection hx
    refine ⟨⟨none, 0, none, 0, none, 0⟩, ⟨zIt_at _ _, (fun h => absurd h (by simp)), Nat.le_refl _, (fun _ => rfl), RdF.nil, Nat.le_refl _, fun _ => rfl⟩, fun j u hu => ?_⟩
    rw [b2.cell]
    have hj := (Array.getElem?_eq_some_iff.1 hu).1
    simp [nc] at hj
    rcases (by omega : j = 0 ∨ j = 1 ∨ j = 2 ∨ j = 3 ∨ j = 4 ∨ j = 5 ∨ j = 6 ∨ j = 7 ∨ j = 8) with rfl | rfl | rfl | rfl | rfl | rfl | rfl | rfl | rfl <;> exact hu
  · obtain rfl : (⟨6, 0, 9, zIt, [2], []⟩ : Nd) = x := by injection hx
    refine ⟨⟨none, 0, some ⟨w.heap.size + 1, 0, none⟩, 1, none, 0⟩, ⟨zIt_at _ _, r1, Nat.le_refl _, (fun h => by cases h), RdF.nil, Nat.le_refl _, fun _ => rfl⟩, fun j u hu => ?_⟩
    rw [b2.cell]
    have hj := (Array.getElem?_eq_some_iff.1 hu).1
    simp [nc] at hj
    rcases (by omega : j = 0 ∨ j = 1 ∨ j = 2 ∨ j = 3 ∨ j = 4 ∨ j = 5 ∨ j = 6 ∨ j = 7 ∨ j = 8) with rfl | rfl | rfl | rfl | rfl | rfl | rfl | rfl | rfl <;> exact hu

set_option maxRecDepth 100000 in
set_option maxHeartbeats 2000000 in
theorem sch_awake (w : World) : Calls Tryz.prog 4 #[] w fun e w' => e = .returned (.bool true) ∧ Below w.heap.size w w' := by
  obtain ⟨w1, hw1, hx, S⟩ := aw_at w
  have hC := sch_Check aw (some ⟨w.heap.size + 2, 0, none⟩) 3 w1.heap.size w1 (Nat.le_refl _) hx aw_ok (by simp [aw])
  rw [aw_vals.1, aw_vals.2] at hC
  have HC := Lib.hid hC
  have HS := Lib.hid S
  unfold awc at hw1
  clear hx S hC
  simp only [vS, aw, List.length_cons, List.length_nil] at HC
  go_enter Tryz.func4, Tryz.ntmps4
  go_wp2_with (first
    | (go_at_call 8; refine HC.out.mono ?_; rintro e w2 ⟨rfl, hb2⟩; have HB2 := Lib.hid (HS.out.trans (hb2.mono HS.out.size)); clear hb2)
    | fail)
  go_ret
  exact ⟨rfl, HB2.out⟩
end Go.Proofs.YtgbbgdjdomkohaaGreat

/- The document's answer for texts: sign by sign. -/
namespace Go.Proofs.YtgbbgdjdomkohaaGreat
open Go.RowKit

/-- Is a place's byte one that followsW? -/
def isFW (s : ByteArray) (k : Nat) : Prop := k < s.size ∧ 128 ≤ sb s k ∧ sb s k ≤ 191
instance (s : ByteArray) (k : Nat) : Decidable (isFW s k) := by unfold isFW; exact inferInstance
/-- How many follow, of n, from a place on. -/
def ufolW (s : ByteArray) (i : Nat) : Nat → Nat
  | 0 => 0
  | n + 1 => if isFW s i then 1 + ufolW s (i + 1) n else 0
theorem ufol_leW (s : ByteArray) : ∀ (n i : Nat), ufolW s i n ≤ n
  | 0, _ => Nat.le_refl _
  | n + 1, i => by
    unfold ufolW
    split
    · have := ufol_leW s n (i + 1); omega
    · omega
theorem ufol_atW {s : ByteArray} : ∀ {k n i : Nat}, k ≤ n → (∀ j, j < k → isFW s (i + j)) → (k = n ∨ ¬ isFW s (i + k)) → ufolW s i n = k
  | 0, 0, i, _, _, _ => rfl
  | 0, n + 1, i, _, _, h => by
    unfold ufolW
    rw [if_neg (by
      rcases h with h | h
      · omega
      · exact h)]
  | k + 1, 0, _, h, _, _ => by omega
  | k + 1, n + 1, i, h, h1, h2 => by
    unfold ufolW
    rw [if_pos (show isFW s i from h1 0 (by omega)), ufol_atW (k := k) (by omega) (fun j hj => by rw [show i + 1 + j = i + (j + 1) by omega]; exact h1 (j + 1) (by omega)) (by
      rcases h2 with h2 | h2
      · left; omega
      · right; rw [show i + 1 + k = i + (k + 1) by omega]; exact h2)]
    omega

set_option maxRecDepth 100000 in
theorem ref_followW (s : ByteArray) (hs : s.size ≤ 9223372036854775807) (i n : Nat) (hi : i ≤ s.size) (hn : n ≤ 4) (w : World) :
    Calls Tryz.prog 17 #[.string s, .int .i64 i, .int .i64 n] w fun e w' => e = .returned (.int .i64 (ufolW s i n)) ∧ w = w' := by
  have HI := fun (w : World) (k : Nat) (hk : k < s.size) (x : Int) (hx : x = k) => run_sb (P := Tryz.prog) Tryz.underlying9 w s k hk x hx
  go_enter Tryz.func17, Tryz.ntmps17
  go_wp2_with fail
  go_loop [7] (fun k => ∃ m : Nat, m ≤ n ∧ k = .int .i64 m ∧ ∀ j, j < m → isFW s (i + j)) (fun k => n - (intOf k).toNat)
  case atStart => exact ⟨0, by omega, rfl, fun j hj => by omega⟩
  case round =>
    obtain ⟨m, hm, rfl, hf⟩ := hrel
    have him : i + m ≤ s.size := by
      rcases Nat.eq_zero_or_pos m with h | h
      · omega
      · have := (hf (m - 1) (by omega)).1
        omega
    have HF := Lib.hid hf
    clear hf
    by_cases h1 : m < n
    · by_cases h2 : i + m < s.size
      · have hi' := HI w (i + m) h2 ((i : Int) + m) (by simp)
        clear HI
        by_cases h3 : 128 ≤ sb s (i + m)
        · by_cases h4 : sb s (i + m) ≤ 191
          · go_wp2_with fail
            go_round
            case rel => exact ⟨m + 1, by omega, by go_num, fun j hj => (by
              by_cases hjm : j < m
              · exact HF.out j hjm
              · rw [show j = m by omega]; exact ⟨h2, h3, h4⟩)⟩
            case measure => simp [intOf]; omega
          · have e := Lib.hid (ufol_atW (s := s) (i := i) hm HF.out (Or.inr (fun hx => h4 hx.2.2)))
            go_wp2_with fail
            go_ret
            exact ⟨by rw [e.out]; rfl, rfl⟩
        · have e := Lib.hid (ufol_atW (s := s) (i := i) hm HF.out (Or.inr (fun hx => h3 hx.2.1)))
          go_wp2_with fail
          go_ret
          exact ⟨by rw [e.out]; rfl, rfl⟩
      · have e := Lib.hid (ufol_atW (s := s) (i := i) hm HF.out (Or.inr (fun hx => h2 hx.1)))
        have h2' : ¬ ((i : Int) + m < s.size) := by omega
        clear HI
        go_wp2_with fail
        go_ret
        exact ⟨by rw [e.out]; rfl, rfl⟩
    · have e := Lib.hid (ufol_atW (s := s) (i := i) hm HF.out (Or.inl (by omega)))
      clear HI
      go_wp2_with fail
      go_ret
      exact ⟨by rw [e.out]; rfl, rfl⟩
end Go.Proofs.YtgbbgdjdomkohaaGreat

/- The document's answer for texts: a sign. -/
namespace Go.Proofs.YtgbbgdjdomkohaaGreat
open Go.RowKit
set_option maxRecDepth 100000

/-- A sign's first byte c: it has n bytes, the next one's bounds are lo, hi. -/
def LeadW (c : Int) (n : Nat) (lo hi : Int) : Prop :=
  (n = 2 ∧ 194 ≤ c ∧ c ≤ 223 ∧ lo = 128 ∧ hi = 191) ∨ (n = 3 ∧ c = 224 ∧ lo = 160 ∧ hi = 191) ∨ (n = 3 ∧ c = 237 ∧ lo = 128 ∧ hi = 159) ∨ (n = 3 ∧ 225 ≤ c ∧ c ≤ 239 ∧ (c == 237) = false ∧ lo = 128 ∧ hi = 191) ∨
  (n = 4 ∧ c = 240 ∧ lo = 144 ∧ hi = 191) ∨ (n = 4 ∧ c = 244 ∧ lo = 128 ∧ hi = 143) ∨ (n = 4 ∧ 241 ≤ c ∧ c ≤ 243 ∧ lo = 128 ∧ hi = 191)
theorem lead_ofW {c : Int} {m : Nat} (h : umore c = some (m + 1)) : LeadW c (m + 2) (ulo c) (uhi c) := by
  unfold LeadW ulo uhi
  rcases umore_some h with ⟨h, r1, r2⟩ | ⟨h, r1, r2⟩ | ⟨h, r1, r2⟩ | ⟨h, r1⟩
  · have hm : m + 2 = 4 := by omega
    by_cases e1 : c = 240
    · subst e1; simp [hm]
    by_cases e2 : c = 244
    · subst e2; simp [hm]
    right; right; right; right; right; right
    rw [if_neg (by omega), if_neg e1, if_neg (by omega), if_neg e2]
    omega
  · have hm : m + 2 = 3 := by omega
    by_cases e1 : c = 224
    · subst e1; simp [hm]
    by_cases e2 : c = 237
    · subst e2; simp [hm]
    right; right; right; left
    rw [if_neg e1, if_neg (by omega), if_neg e2, if_neg (by omega), beq_eq_false_iff_ne]
    omega
  · have hm : m + 2 = 2 := by omega
    left
    rw [if_neg (by omega), if_neg (by omega), if_neg (by omega), if_neg (by omega)]
    omega
  · omega
set_option maxHeartbeats 1000000 in
theorem ref_sign_shortW (s : ByteArray) (hs : s.size ≤ 9223372036854775807) (i n : Nat) (lo hi : Int) (hl : LeadW (sb s i) n lo hi) (h0 : i < s.size) (h1 : s.size = i + 1) (w : World) :
    Calls Tryz.prog 9 #[.string s, .int .i64 i] w fun e w' => e = .returned (.tuple #[.int .i64 n, .int .i64 1]) ∧ w = w' := by
  have HI := fun (w : World) (k : Nat) (hk : k < s.size) (x : Int) (hx : x = k) => run_sb (P := Tryz.prog) Tryz.underlying9 w s k hk x hx
  have i0 := HI w i h0 i rfl
  have g1 : (s.size : Int) ≤ (i : Int) + 1 := by omega
  clear HI
  generalize sb s i = c at *
  rcases hl with ⟨rfl, r1, r2, rfl, rfl⟩ | ⟨rfl, rfl, rfl, rfl⟩ | ⟨rfl, rfl, rfl, rfl⟩ | ⟨rfl, r1, r2, r3, rfl, rfl⟩ | ⟨rfl, rfl, rfl, rfl⟩ | ⟨rfl, rfl, rfl, rfl⟩ | ⟨rfl, r1, r2, rfl, rfl⟩
  all_goals (
    go_enter Tryz.func9, Tryz.ntmps9
    go_wp2_with fail
    go_ret2
    exact ⟨rfl, rfl⟩)
set_option maxHeartbeats 2000000 in
theorem ref_sign_badW (s : ByteArray) (hs : s.size ≤ 9223372036854775807) (i n : Nat) (lo hi : Int) (hl : LeadW (sb s i) n lo hi) (h1 : i + 1 < s.size) (hb : sb s (i + 1) < lo ∨ hi < sb s (i + 1)) (w : World) :
    Calls Tryz.prog 9 #[.string s, .int .i64 i] w fun e w' => e = .returned (.tuple #[.int .i64 n, .int .i64 1]) ∧ w = w' := by
  have HI := fun (w : World) (k : Nat) (hk : k < s.size) (x : Int) (hx : x = k) => run_sb (P := Tryz.prog) Tryz.underlying9 w s k hk x hx
  have h0 : i < s.size := by omega
  have i0 := HI w i h0 i rfl
  have i1 := HI w (i + 1) h1 ((i : Int) + 1) (by simp)
  have g1 : (i : Int) + 1 < (s.size : Int) := by omega
  clear HI
  generalize sb s i = c at *
  generalize sb s (i + 1) = d at *
  by_cases hd : d < lo
  · clear hb
    rcases hl with ⟨rfl, r1, r2, rfl, rfl⟩ | ⟨rfl, rfl, rfl, rfl⟩ | ⟨rfl, rfl, rfl, rfl⟩ | ⟨rfl, r1, r2, r3, rfl, rfl⟩ | ⟨rfl, rfl, rfl, rfl⟩ | ⟨rfl, rfl, rfl, rfl⟩ | ⟨rfl, r1, r2, rfl, rfl⟩
    all_goals (
      go_enter Tryz.func9, Tryz.ntmps9
      go_wp2_with fail
      go_ret2
      exact ⟨rfl, rfl⟩)
  · have hd2 : hi < d := by omega
    clear hb
    rcases hl with ⟨rfl, r1, r2, rfl, rfl⟩ | ⟨rfl, rfl, rfl, rfl⟩ | ⟨rfl, rfl, rfl, rfl⟩ | ⟨rfl, r1, r2, r3, rfl, rfl⟩ | ⟨rfl, rfl, rfl, rfl⟩ | ⟨rfl, rfl, rfl, rfl⟩ | ⟨rfl, r1, r2, rfl, rfl⟩
    all_goals (
      go_enter Tryz.func9, Tryz.ntmps9
      go_wp2_with fail
      go_ret2
      exact ⟨rfl, rfl⟩)
set_option maxHeartbeats 2000000 in
theorem ref_sign_goodW (s : ByteArray) (hs : s.size ≤ 9223372036854775807) (i n : Nat) (lo hi : Int) (hl : LeadW (sb s i) n lo hi) (h1 : i + 1 < s.size) (hb : lo ≤ sb s (i + 1)) (hb' : sb s (i + 1) ≤ hi) (w : World) :
    Calls Tryz.prog 9 #[.string s, .int .i64 i] w fun e w' => e = .returned (.tuple #[.int .i64 n, .int .i64 (2 + ufolW s (i + 2) (n - 2) : Nat)]) ∧ w = w' := by
  have HI := fun (w : World) (k : Nat) (hk : k < s.size) (x : Int) (hx : x = k) => run_sb (P := Tryz.prog) Tryz.underlying9 w s k hk x hx
  have h0 : i < s.size := by omega
  have i0 := HI w i h0 i rfl
  have i1 := HI w (i + 1) h1 ((i : Int) + 1) (by simp)
  have g1 : (i : Int) + 1 < (s.size : Int) := by omega
  have hn : 2 ≤ n ∧ n ≤ 4 := by unfold LeadW at hl; omega
  have HF := Lib.hid (ref_followW s hs (i + 2) (n - 2) (by omega) (by omega))
  rw [show ((i + 2 : Nat) : Int) = (i : Int) + 2 by simp, show ((n - 2 : Nat) : Int) = (n : Int) - 2 by omega] at HF
  have hu := ufol_leW s (n - 2) (i + 2)
  generalize ufolW s (i + 2) (n - 2) = u at *
  have hu' : u ≤ 2 := by omega
  rw [show ((2 + u : Nat) : Int) = 2 + (u : Int) by simp]
  clear HI hu hn
  generalize sb s i = c at *
  generalize sb s (i + 1) = d at *
  rcases hl with ⟨rfl, r1, r2, rfl, rfl⟩ | ⟨rfl, rfl, rfl, rfl⟩ | ⟨rfl, rfl, rfl, rfl⟩ | ⟨rfl, r1, r2, r3, rfl, rfl⟩ | ⟨rfl, rfl, rfl, rfl⟩ | ⟨rfl, rfl, rfl, rfl⟩ | ⟨rfl, r1, r2, rfl, rfl⟩
  all_goals (
    simp only [Int.reduceSub, Int.cast_ofNat_Int] at HF
    go_enter Tryz.func9, Tryz.ntmps9
    go_wp2_with fail
    refine (HF.out w).mono ?_
    rintro e w' ⟨rfl, rfl⟩
    go_wp2_with fail
    go_ret2
    exact ⟨rfl, rfl⟩)
theorem ref_sign_oneW (s : ByteArray) (i : Nat) (h0 : i < s.size) (hm : umore (sb s i) = some 0) (w : World) :
    Calls Tryz.prog 9 #[.string s, .int .i64 i] w fun e w' => e = .returned (.tuple #[.int .i64 1, .int .i64 1]) ∧ w = w' := by
  have i0 := run_sb (P := Tryz.prog) Tryz.underlying9 w s i h0 i rfl
  have r1 : sb s i ≤ 127 := by have := umore_some hm; omega
  clear hm
  generalize sb s i = c at *
  go_enter Tryz.func9, Tryz.ntmps9
  go_wp2_with fail
  go_ret2
  exact ⟨rfl, rfl⟩
theorem ref_sign_noneW (s : ByteArray) (i : Nat) (h0 : i < s.size) (hm : umore (sb s i) = none) (w : World) :
    Calls Tryz.prog 9 #[.string s, .int .i64 i] w fun e w' => e = .returned (.tuple #[.int .i64 0, .int .i64 0]) ∧ w = w' := by
  have i0 := run_sb (P := Tryz.prog) Tryz.underlying9 w s i h0 i rfl
  obtain ⟨r1, r2, r3, r4⟩ := umore_none hm
  clear hm
  generalize sb s i = c at *
  go_enter Tryz.func9, Tryz.ntmps9
  go_wp2_with fail
  all_goals go_ret2
  all_goals exact ⟨rfl, rfl⟩
end Go.Proofs.YtgbbgdjdomkohaaGreat

/- The document's answer for texts: what a sign tells of the states. -/
namespace Go.Proofs.YtgbbgdjdomkohaaGreat
open Go.RowKit
set_option maxRecDepth 100000

theorem ufol_specW (s : ByteArray) : ∀ (n i : Nat), (∀ j, j < ufolW s i n → isFW s (i + j)) ∧ (ufolW s i n < n → ¬ isFW s (i + ufolW s i n))
  | 0, i => ⟨fun j hj => by simp [ufolW] at hj, fun h => by simp [ufolW] at h⟩
  | n + 1, i => by
    obtain ⟨h1, h2⟩ := ufol_specW s n (i + 1)
    by_cases hf : isFW s i
    · have e : ufolW s i (n + 1) = 1 + ufolW s (i + 1) n := by
        show (if isFW s i then 1 + ufolW s (i + 1) n else 0) = _
        rw [if_pos hf]
      rw [e]
      refine ⟨fun j hj => ?_, fun h => ?_⟩
      · cases j with
        | zero => exact hf
        | succ j => rw [show i + (j + 1) = i + 1 + j by omega]; exact h1 j (by omega)
      · rw [show i + (1 + ufolW s (i + 1) n) = i + 1 + ufolW s (i + 1) n by omega]
        exact h2 (by omega)
    · have e : ufolW s i (n + 1) = 0 := by
        show (if isFW s i then 1 + ufolW s (i + 1) n else 0) = _
        rw [if_neg hf]
      rw [e]
      exact ⟨fun j hj => by omega, fun _ => hf⟩
/-- The state after p bytes of a text. -/
def uSW (s : ByteArray) (p : Nat) : UQ := ust uq0 (sbytes s) p
theorem uS_succW (s : ByteArray) (p : Nat) (h : p < s.size) : uSW s (p + 1) = ustep (uSW s p) (sb s p) := ust_succ _ _ _ (by rw [length_sbytes]; exact h)
theorem ustep_noneW {q : UQ} {c : Int} (h : q.left = 0) (hw : q.wr = false) (hm : umore c = none) : (ustep q c).wr = true := by
  unfold ustep; rw [if_neg (by simp [hw]), if_pos h, hm]
theorem ustep_someW {q : UQ} {c : Int} {n : Nat} (h : q.left = 0) (hw : q.wr = false) (hm : umore c = some n) : ustep q c = ⟨n, ulo c, uhi c, false⟩ := by
  unfold ustep; rw [if_neg (by simp [hw]), if_pos h, hm]
theorem ustep_badW {n : Nat} {lo hi c : Int} (h : c < lo ∨ hi < c) : (ustep ⟨n + 1, lo, hi, false⟩ c).wr = true := by
  unfold ustep; rw [if_neg (by simp), if_neg (by simp), if_pos h]
theorem ustep_goodW {n : Nat} {lo hi c : Int} (h : lo ≤ c) (h' : c ≤ hi) : ustep ⟨n + 1, lo, hi, false⟩ c = ⟨n, 128, 191, false⟩ := by
  unfold ustep; rw [if_neg (by simp), if_neg (by simp), if_neg (by show ¬ (c < lo ∨ hi < c); omega)]; rfl
/-- What n and k tell of the sign at place p. -/
def TellsW (s : ByteArray) (p n k : Nat) : Prop :=
  (n = 0 ∧ k = 0 ∧ (uSW s (p + 1)).wr = true) ∨
  (1 ≤ n ∧ n ≤ 4 ∧ k ≤ n ∧ p + k ≤ s.size ∧ (∀ j, j ≤ k → (uSW s (p + j)).wr = false) ∧ (k = n → (uSW s (p + k)).left = 0) ∧ (k < n → (uSW s (p + k)).left ≠ 0 ∧ (p + k < s.size → (uSW s (p + k + 1)).wr = true)))
theorem followsW {s : ByteArray} {i m : Nat} (h0 : uSW s i = ⟨m, 128, 191, false⟩) : ∀ u, u ≤ m → (∀ j, j < u → isFW s (i + j)) → uSW s (i + u) = ⟨m - u, 128, 191, false⟩
  | 0, _, _ => h0
  | u + 1, hu, hf => by
    have ih := followsW h0 u (by omega) (fun j hj => hf j (by omega))
    obtain ⟨g1, g2, g3⟩ := hf u (by omega)
    rw [show i + (u + 1) = i + u + 1 by omega, uS_succW s _ g1, ih, show m - u = m - (u + 1) + 1 by omega, ustep_goodW g2 g3]
theorem ref_signW (s : ByteArray) (hs : s.size ≤ 9223372036854775807) (p : Nat) (h0 : p < s.size) (hl : (uSW s p).left = 0) (hw : (uSW s p).wr = false) (w : World) :
    Calls Tryz.prog 9 #[.string s, .int .i64 p] w fun e w' => ∃ n k : Nat, e = .returned (.tuple #[.int .i64 n, .int .i64 k]) ∧ TellsW s p n k ∧ w = w' := by
  have e1 := uS_succW s p h0
  cases hm : umore (sb s p) with
  | none =>
    refine (ref_sign_noneW s p h0 hm w).mono ?_
    rintro e w' ⟨rfl, rfl⟩
    exact ⟨0, 0, rfl, Or.inl ⟨rfl, rfl, by rw [e1]; exact ustep_noneW hl hw hm⟩, rfl⟩
  | some m =>
    rw [ustep_someW hl hw hm] at e1
    cases m with
    | zero =>
      refine (ref_sign_oneW s p h0 hm w).mono ?_
      rintro e w' ⟨rfl, rfl⟩
      refine ⟨1, 1, rfl, Or.inr ⟨by omega, by omega, by omega, by omega, fun j hj => ?_, fun _ => by rw [e1], fun h => by omega⟩, rfl⟩
      rcases Nat.lt_or_ge j 1 with h | h
      · rw [show j = 0 by omega]; exact hw
      · rw [show j = 1 by omega, e1]
    | succ m =>
      have hL := lead_ofW hm
      have hm3 : m + 1 ≤ 3 := by have := umore_some hm; omega
      by_cases h1 : p + 1 < s.size
      · have e2 := uS_succW s (p + 1) h1
        rw [e1] at e2
        by_cases hb : sb s (p + 1) < ulo (sb s p) ∨ uhi (sb s p) < sb s (p + 1)
        · refine (ref_sign_badW s hs p (m + 2) _ _ hL h1 hb w).mono ?_
          rintro e w' ⟨rfl, rfl⟩
          refine ⟨m + 2, 1, rfl, Or.inr ⟨by omega, by omega, by omega, by omega, fun j hj => ?_, fun h => by omega, fun _ => ⟨by rw [e1]; exact Nat.succ_ne_zero _, fun _ => by rw [e2]; exact ustep_badW hb⟩⟩, rfl⟩
          rcases Nat.lt_or_ge j 1 with h | h
          · rw [show j = 0 by omega]; exact hw
          · rw [show j = 1 by omega, e1]
        · refine (ref_sign_goodW s hs p (m + 2) _ _ hL h1 (by omega) (by omega) w).mono ?_
          rintro e w' ⟨rfl, rfl⟩
          rw [ustep_goodW (by omega) (by omega)] at e2
          obtain ⟨f1, f2⟩ := ufol_specW s m (p + 2)
          have fle := ufol_leW s m (p + 2)
          have hf := fun u hu => followsW (s := s) (i := p + 2) (m := m) e2 u hu
          rw [show m + 2 - 2 = m by omega]
          have hin : p + (2 + ufolW s (p + 2) m) ≤ s.size := by
            rcases Nat.eq_zero_or_pos (ufolW s (p + 2) m) with h | h
            · omega
            · have := (f1 (ufolW s (p + 2) m - 1) (by omega)).1
              omega
          generalize ufolW s (p + 2) m = u at *
          have hu := hf u fle f1
          refine ⟨m + 2, 2 + u, rfl, Or.inr ⟨by omega, by omega, by omega, hin, fun j hj => ?_, fun h => ?_, fun h => ⟨?_, fun hlt => ?_⟩⟩, rfl⟩
          · rcases Nat.lt_or_ge j 1 with h | h
            · rw [show j = 0 by omega]; exact hw
            · rcases Nat.lt_or_ge j 2 with h' | h'
              · rw [show j = 1 by omega, e1]
              · rw [show p + j = p + 2 + (j - 2) by omega, hf (j - 2) (by omega) (fun i hi => f1 i (by omega))]
          · rw [show p + (2 + u) = p + 2 + u by omega, hu]
            show m - u = 0
            omega
          · rw [show p + (2 + u) = p + 2 + u by omega, hu]
            show m - u ≠ 0
            omega
          · rw [uS_succW s _ hlt, show p + (2 + u) = p + 2 + u by omega, hu, show m - u = m - u - 1 + 1 by omega]
            refine ustep_badW ?_
            have := f2 (by omega)
            unfold isFW at this
            omega
      · refine (ref_sign_shortW s hs p (m + 2) _ _ hL h0 (by omega) w).mono ?_
        rintro e w' ⟨rfl, rfl⟩
        refine ⟨m + 2, 1, rfl, Or.inr ⟨by omega, by omega, by omega, by omega, fun j hj => ?_, fun h => by omega, fun _ => ⟨by rw [e1]; exact Nat.succ_ne_zero _, fun h => by omega⟩⟩, rfl⟩
        rcases Nat.lt_or_ge j 1 with h | h
        · rw [show j = 0 by omega]; exact hw
        · rw [show j = 1 by omega, e1]
end Go.Proofs.YtgbbgdjdomkohaaGreat

/- The document's answer for texts: First. -/
namespace Go.Proofs.YtgbbgdjdomkohaaGreat
open Go.RowKit
set_option maxRecDepth 100000

theorem uS_atW {s : ByteArray} (p : Nat) (hp : p < s.size) (h : (uSW s p).wr = false) (h' : (uSW s (p + 1)).wr = true) : uat uq0 (sbytes s) 0 = p ∧ uok uq0 (sbytes s) = false :=
  ⟨uat_some p (by rw [length_sbytes]; exact hp) h h', uok_wr (k := p + 1) (by rw [length_sbytes]; exact hp) h'⟩
theorem uS_endW {s : ByteArray} (h : ∀ j, j ≤ s.size → (uSW s j).wr = false) : uat uq0 (sbytes s) 0 = -1 ∧ uok uq0 (sbytes s) = ((uSW s s.size).left == 0) := by
  refine ⟨uat_none (fun k hk => h k (by rwa [length_sbytes] at hk)), ?_⟩
  have e : urun uq0 (sbytes s) = uSW s s.size := by unfold uSW; rw [← length_sbytes, ust_all]
  unfold uok udone
  rw [e, h _ (Nat.le_refl _)]
  rfl
set_option maxHeartbeats 1000000 in
theorem ref_FirstW (s : ByteArray) (hs : s.size ≤ 9223372036854775807) (w : World) :
    Calls Tryz.prog 5 #[.string s] w fun e w' => e = .returned (.tuple #[.int .i64 (uat uq0 (sbytes s) 0), .bool (uok uq0 (sbytes s))]) ∧ w = w' := by
  go_enter Tryz.func5, Tryz.ntmps5
  go_wp2_with fail
  go_loop [4] (fun x => ∃ p : Nat, p ≤ s.size ∧ x = .int .i64 p ∧ (uSW s p).left = 0 ∧ ∀ j, j ≤ p → (uSW s j).wr = false) (fun x => s.size - (intOf x).toNat)
  case atStart => exact ⟨0, by omega, rfl, rfl, fun j hj => by rw [show j = 0 by omega]; rfl⟩
  case round =>
    obtain ⟨p, hp, rfl, hl, hw⟩ := hrel
    by_cases hlt : p < s.size
    · have HS := Lib.hid (ref_signW s hs p hlt hl (hw p (Nat.le_refl _)) w)
      have HW := Lib.hid hw
      clear hw hl
      go_wp2_with fail
      refine HS.out.mono ?_
      rintro e w' ⟨n, k, rfl, ht, rfl⟩
      clear HS
      rcases ht with ⟨rfl, rfl, hx⟩ | ⟨h1, h4, hkn, hin, hno, heq, hne⟩
      · obtain ⟨ea, eo⟩ := uS_atW p hlt (HW.out p (Nat.le_refl _)) hx
        have EX := Lib.hid (And.intro ea eo)
        clear ea eo hx
        go_wp2_with fail
        go_ret2
        exact ⟨by rw [EX.out.1, EX.out.2]; rfl, rfl⟩
      · have hn0 : ((n : Int) == 0) = false := by rw [beq_eq_false_iff_ne]; omega
        have hall : ∀ j, j ≤ p + k → (uSW s j).wr = false := fun j hj => by
          rcases Nat.lt_or_ge j p with h | h
          · exact HW.out j (by omega)
          · rw [show j = p + (j - p) by omega]; exact hno _ (by omega)
        have HA := Lib.hid hall
        clear hno HW hall
        by_cases hk : k < n
        · obtain ⟨h5, h6⟩ := hne hk
          by_cases hq : p + k < s.size
          · have h7 := h6 hq
            obtain ⟨ea, eo⟩ := uS_atW (p + k) hq (HA.out _ (Nat.le_refl _)) h7
            rw [show ((p + k : Nat) : Int) = (p : Int) + k by simp] at ea
            have EX := Lib.hid (And.intro ea eo)
            clear ea eo h7 h5 h6 heq hne HA
            have hq' : (p : Int) + k < (s.size : Int) := by omega
            go_wp2_with fail
            go_ret2
            exact ⟨by rw [EX.out.1, EX.out.2]; rfl, rfl⟩
          · have hpk : p + k = s.size := by omega
            obtain ⟨ea, eo⟩ := uS_endW (s := s) (fun j hj => HA.out j (by omega))
            rw [← hpk, show ((uSW s (p + k)).left == 0) = false by simpa using h5] at eo
            have EX := Lib.hid (And.intro ea eo)
            clear ea eo h5 h6 heq hne HA
            have hq' : ¬ (p : Int) + k < (s.size : Int) := by omega
            go_wp2_with fail
            go_ret2
            exact ⟨by rw [EX.out.1, EX.out.2]; rfl, rfl⟩
        · have hkn' : k = n := by omega
          subst hkn'
          have HL := Lib.hid (heq rfl)
          clear heq hne
          go_wp2_with fail
          go_round
          case rel => exact ⟨p + k, hin, by go_num, HL.out, HA.out⟩
          case measure => simp [intOf]; omega
    · have hps : p = s.size := by omega
      subst hps
      obtain ⟨ea, eo⟩ := uS_endW hw
      rw [hl] at eo
      have EX := Lib.hid (And.intro ea eo)
      clear ea eo hw hl
      go_wp2_with fail
      go_ret2
      exact ⟨by rw [EX.out.1, EX.out.2]; rfl, rfl⟩
end Go.Proofs.YtgbbgdjdomkohaaGreat
