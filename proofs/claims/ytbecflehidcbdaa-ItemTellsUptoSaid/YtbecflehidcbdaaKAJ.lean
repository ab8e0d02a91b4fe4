/- The document's Great, Depth. -/
import Derived.Test.YtbecflehidcbdaaKAI
import Derived.Test.YtbecflehidcbdaaKAE
namespace Go.Proofs.Ytbecflehidcbdaa
open Go.RowKit

noncomputable def greatB (x : It) : Bool := overB 80 x || decide (200 < x.count)
set_option maxRecDepth 100000 in
set_option maxHeartbeats 2000000 in
theorem ref_Great (x : It) (A : Option Addr) (cap n : Nat) (w : World) (hc : x.count ≤ 1099511627775) (hn : n ≤ w.heap.size) (h : AtB w n x A cap) :
    Calls Try.prog 6 #[vI x A cap] w fun e w' => e = .returned (.bool (greatB x)) ∧ Below w.heap.size w w' := by
  obtain ⟨w1, hw1, b1, S⟩ := iblk1 w 25 #[.int .i64 x.k, .int .u64 x.n, .string x.s, .slice A x.l.length cap]
  obtain ⟨p0, p1, p2, p3, -⟩ := iblk b1
  have C1 := fun w' (hb : Below w.heap.size w w') => ref_over 80 x A cap w' (by omega) (by omega) (h.keep (hb.mono hn)).toV
  have C2 := fun w' (hb : Below w.heap.size w w') => ref_Items x.count x A cap n 1 w' (Nat.le_refl _) (by omega) (Nat.le_trans hn hb.size) (h.keep (hb.mono hn))
  have hL : RowKit.Hid ((its x 1).length = x.count) := Lib.hid (length_its x 1)
  have HP : RowKit.Hid (0 < x.count) := Lib.hid (count_pos x)
  unfold greatB
  obtain ⟨r, hr⟩ : ∃ r, overB 80 x = r := ⟨_, rfl⟩
  obtain ⟨m, hm⟩ : ∃ m, x.count = m := ⟨_, rfl⟩
  rw [hr] at C1 ⊢
  rw [hm] at hL HP ⊢
  have HC1 := Lib.hid C1
  have HC2 := Lib.hid C2
  have HS := Lib.hid S
  clear C1 C2 S h hc hn hr hm b1
  go_enter Try.func6, Try.ntmps6
  simp only [vI] at HC1 HC2 ⊢
  cases r
  · go_wp2_with (first
      | (go_at_call 18; refine (HC1.out _ HS.out).mono ?_; rintro e w2 ⟨rfl, hb2⟩; have p0' := (hb2.cell (p := ⟨w.heap.size, 0, none⟩) (block_lt_of_cell p0)).trans p0; have p1' := (hb2.cell (p := ⟨w.heap.size, 1, none⟩) (block_lt_of_cell p1)).trans p1; have p2' := (hb2.cell (p := ⟨w.heap.size, 2, none⟩) (block_lt_of_cell p2)).trans p2; have p3' := (hb2.cell (p := ⟨w.heap.size, 3, none⟩) (block_lt_of_cell p3)).trans p3; have HB2 := Lib.hid (HS.out.trans (hb2.mono HS.out.size)); clear hb2)
      | (go_at_call 7; refine (HC2.out _ HB2.out).mono ?_; rintro e w3 ⟨v1, v2, rfl, hp, hb3⟩; obtain ⟨g1, cap1, rfl, -, -, -, -⟩ := hp.1.form (by rw [hL.out]; exact HP.out); rw [hL.out]; have HB3 := Lib.hid (HB2.out.trans (hb3.mono HB2.out.size)); clear hb3 hp))
    go_ret
    exact ⟨by simp; omega, HB3.out⟩
  · go_wp2_with (first
      | (go_at_call 18; refine (HC1.out _ HS.out).mono ?_; rintro e w2 ⟨rfl, hb2⟩; have HB2 := Lib.hid (HS.out.trans (hb2.mono HS.out.size)); clear hb2))
    go_ret
    exact ⟨rfl, HB2.out⟩

set_option maxRecDepth 100000 in
set_option maxHeartbeats 2000000 in
theorem ref_Depth (x : It) (A : Option Addr) (cap n : Nat) (w : World) (hc : x.count ≤ 1099511627775) (hn : n ≤ w.heap.size) (h : AtB w n x A cap) :
    Calls Try.prog 10 #[vI x A cap] w fun e w' => e = .returned (.int .i64 (x.depth : Int)) ∧ Below w.heap.size w w' := by
  obtain ⟨w1, hw1, b1, S⟩ := iblk1 w 25 #[.int .i64 x.k, .int .u64 x.n, .string x.s, .slice A x.l.length cap]
  obtain ⟨p0, p1, p2, p3, -⟩ := iblk b1
  have C2 := fun w' (hb : Below w.heap.size w w') => ref_Items x.count x A cap n 1 w' (Nat.le_refl _) (by omega) (Nat.le_trans hn hb.size) (h.keep (hb.mono hn))
  have hL : RowKit.Hid ((deps x 1).length = x.count) := Lib.hid (length_deps x 1)
  have HP : RowKit.Hid (0 < x.count) := Lib.hid (count_pos x)
  have hml : (x.count : Int) < 1099511627776 := by omega
  obtain ⟨m, hm⟩ : ∃ m, x.count = m := ⟨_, rfl⟩
  rw [hm] at hL HP hml
  have HC2 := Lib.hid C2
  have HS := Lib.hid S
  clear C2 S h hc hn hm b1
  go_enter Try.func10, Try.ntmps10
  simp only [vI] at HC2 ⊢
  go_wp2_with (first
      | (go_at_call 7; refine (HC2.out _ HS.out).mono ?_; rintro e w3 ⟨v1, v2, rfl, hp, hb3⟩; obtain ⟨g2, cap2, rfl⟩ := hp.2.head (by rw [hL.out]; exact HP.out); rw [hL.out]; have HB3 := Lib.hid (HS.out.trans (hb3.mono HS.out.size)); have HD := Lib.hid hp.2; clear hb3 hp))
  obtain ⟨L, hLL⟩ : ∃ L : List Nat, (x.items 1).map (·.1) = L := ⟨_, rfl⟩
  have hdp : deps x 1 = L.map fun d : Nat => (d : Int) := by rw [← hLL]; simp [deps]
  have hbd : ∀ d ∈ L, d ≤ m := fun d hd => by
    rw [← hLL] at hd
    obtain ⟨p, hp, rfl⟩ := List.mem_map.1 hd
    have := It.items_deep x 1 p hp
    have h1 := hL.out
    rw [length_deps] at h1
    omega
  have HDP := Lib.hid hdp
  have HBD := Lib.hid hbd
  have HLL := Lib.hid hLL
  have hLm : L.length = m := by have := hL.out; rw [hdp] at this; simpa using this
  have HLM := Lib.hid hLm
  clear hdp hbd hLL hLm p0 p1 p2 p3 hw1
  have HCELL : RowKit.Hid (∀ j d : Nat, L[j]? = some d → w3.cell? ⟨g2, j, none⟩ = some (.int .i64 (d : Int))) := Lib.hid fun j d hd => by
    have hj : j < (deps x 1).length := by
      rw [HDP.out, List.length_map]
      rcases Nat.lt_or_ge j L.length with h | h
      · exact h
      · rw [List.getElem?_eq_none h] at hd; cases hd
    have := (HD.out.at hj).1
    rw [HDP.out] at this
    rw [this]
    simp [List.getD_eq_getElem?_getD, hd]
  go_loopw [5, 6] (fun v i wr => ∃ j a : Nat, j ≤ m ∧ i = .int .i64 (j : Int) ∧ v = .int .i64 (a : Int) ∧ (a : Int) ≤ m ∧ RowKit.Hid (mostOf (L.take j) = a) ∧ wr = w3) (fun _ i _ => m - (intOf i).toNat)
  case atStart => exact ⟨0, 0, by omega, rfl, rfl, by omega, Lib.hid rfl, rfl⟩
  case round =>
    obtain ⟨j, a, hj, rfl, rfl, ha, HA, rfl⟩ := hrel
    by_cases hlt : j < m
    · obtain ⟨d, hd⟩ : ∃ d, L[j]? = some d := ⟨_, List.getElem?_eq_getElem (by rw [HLM.out]; exact hlt)⟩
      have hcell := HCELL.out j d hd
      have hdm : (d : Int) ≤ m := by
        have := HBD.out d (List.mem_of_getElem? hd)
        omega
      have HN : RowKit.Hid (mostOf (L.take (j + 1)) = max a d) := Lib.hid (by
        have hj' : j < L.length := by rw [HLM.out]; exact hlt
        rw [List.getElem?_eq_getElem hj'] at hd
        injection hd with hd
        rw [List.take_succ_eq_append_getElem hj', mostOf_snoc, HA.out, hd])
      have HDD := Lib.hid hd
      clear hd
      go_wp2
      go_roundw
      case rel => exact ⟨j + 1, max a d, by omega, by simp, by simp; split <;> omega, by omega, HN, trivial⟩
      case measure => simp [intOf]; omega
    · obtain rfl : j = m := by omega
      go_wp2
      go_ret
      have h1 : x.depth = a := by
        rw [← HA.out, ← HLM.out, List.take_length, ← HLL.out]
        rfl
      exact ⟨by rw [h1]; rfl, HB3.out⟩
end Go.Proofs.Ytbecflehidcbdaa

/- Slices of the call's own whose elements are laid by some cells each: stacks. -/
namespace Go.Proofs.Ytbecflehidcbdaa
open Go.RowKit

def LayG {α : Type} (E : α → List Value → Prop) : List α → List Value → Prop
  | [], cs => cs = []
  | x :: r, cs => ∃ c cs', cs = c ++ cs' ∧ E x c ∧ LayG E r cs'
/-- A slice of the call's own, of elements that E lays by s cells of type e each. -/
def OwnG {α : Type} (E : α → List Value → Prop) (w : World) (B : Nat) (e : TypeId) (s : Nat) (v : Value) (xs : List α) : Prop := ∃ cs, w.ownsRow B e s v xs.length cs ∧ LayG E xs cs
section
variable {α : Type} {E E' : α → List Value → Prop} {w w' : World} {B g cap m s : Nat} {e : TypeId} {v : Value} {x x' : α} {xs ys : List α} {c c' cs cs' : List Value}
theorem LayG.one (h : E x c) : LayG E [x] c := ⟨c, [], by simp, h, rfl⟩
theorem LayG.append : ∀ {xs : List α} {cs : List Value}, LayG E xs cs → LayG E ys cs' → LayG E (xs ++ ys) (cs ++ cs')
  | [], cs, h, k => by cases (show cs = [] from h); exact k
  | x :: r, cs, ⟨c, c', e, h1, h2⟩, k => ⟨c, c' ++ cs', by rw [e, List.append_assoc], h1, LayG.append h2 k⟩
theorem LayG.imp (hE : ∀ x c, E x c → E' x c) : ∀ {xs : List α} {cs : List Value}, LayG E xs cs → LayG E' xs cs
  | [], _, h => h
  | _ :: _, _, ⟨c, c', e, h1, h2⟩ => ⟨c, c', e, hE _ _ h1, LayG.imp hE h2⟩
theorem LayG.length (hE : ∀ x c, E x c → c.length = s) : ∀ {xs : List α} {cs : List Value}, LayG E xs cs → cs.length = xs.length * s
  | [], cs, h => by cases (show cs = [] from h); simp
  | x :: r, cs, ⟨c, c', e, h1, h2⟩ => by
    subst e
    rw [List.length_append, hE _ _ h1, h2.length hE, List.length_cons, Nat.add_mul]
    omega
theorem LayG.snoc : ∀ {xs : List α} {cs : List Value}, LayG E (xs ++ [x]) cs → ∃ c c', cs = c ++ c' ∧ LayG E xs c ∧ E x c'
  | [], cs, ⟨c, c', e, h1, h2⟩ => by
    cases (show c' = [] from h2)
    exact ⟨[], c, by rw [e]; simp, rfl, h1⟩
  | y :: r, cs, ⟨c, c', e, h1, h2⟩ => by
    obtain ⟨d, d', e', h3, h4⟩ := LayG.snoc (xs := r) h2
    exact ⟨c ++ d, d', by rw [e, e', List.append_assoc], ⟨c, d, rfl, h1, h3⟩, h4⟩
theorem OwnG.imp (h : OwnG E w B e s v xs) (hE : ∀ x c, E x c → E' x c) : OwnG E' w B e s v xs := let ⟨cs, h1, h2⟩ := h; ⟨cs, h1, h2.imp hE⟩
theorem OwnG.on (h : OwnG E w B e s v xs) (hb : Below w.heap.size w w') : OwnG E w' B e s v xs := let ⟨cs, h1, h2⟩ := h; ⟨cs, oc_on h1 hb, h2⟩
theorem OwnG.kept (h : OwnG E w B e s v xs) {row : Option Nat} (hg : w.grownBy w' row) (hne : v.ownBlock = none ∨ v.ownBlock ≠ row) : OwnG E w' B e s v xs := let ⟨cs, h1, h2⟩ := h; ⟨cs, h1.kept hg hne, h2⟩
theorem OwnG.less (h : OwnG E w B e s v xs) {B' : Nat} (hB : B' ≤ B) : OwnG E w B' e s v xs := let ⟨cs, h1, h2⟩ := h; ⟨cs, oc_less h1 hB, h2⟩
theorem OwnG.far (h : OwnG E w B e s (.slice (some ⟨g, 0, none⟩) m cap) xs) {p : Addr} (hp : g ≠ p.block) (u : Value) : OwnG E (w.setCell p u) B e s (.slice (some ⟨g, 0, none⟩) m cap) xs := let ⟨cs, h1, h2⟩ := h; ⟨cs, oc_far h1 hp u, h2⟩
theorem OwnG.form (h : OwnG E w B e s v xs) : ∃ A cap, v = .slice A xs.length cap ∧ xs.length ≤ cap ∧ cap ≤ maxLen ∧ (A = none → cap = 0) ∧ (∀ p, A = some p → ∃ g, p = ⟨g, 0, none⟩ ∧ B ≤ g ∧ g < w.heap.size) := let ⟨_, h1, _⟩ := h; oc_form h1
theorem OwnG.head (h : OwnG E w B e s v xs) (hn : 0 < xs.length) : ∃ g cap, v = .slice (some ⟨g, 0, none⟩) xs.length cap ∧ xs.length ≤ cap ∧ cap ≤ maxLen ∧ B ≤ g ∧ g < w.heap.size := let ⟨_, h1, _⟩ := h; oc_head h1 hn
theorem OwnG.nil (E : α → List Value → Prop) (w : World) (B : Nat) (e : TypeId) (s : Nat) : OwnG E w B e s (.slice none 0 0) [] := ⟨[], World.ownsRow_nil w B e s, rfl⟩
/-- A block of one element that has just been made. -/
theorem OwnG.fresh (w : World) (B : Nat) (e : TypeId) (s : Nat) (cells : Array Value) (hx : E x cells.toList) (hc : cells.size = s) (hB : B ≤ w.heap.size) : OwnG E (w.alloc (.cells cells e)) B e s (.slice (some ⟨w.heap.size, 0, none⟩) 1 1) [x] :=
  ⟨cells.toList, oc_new w B e s 1 cells (by omega) hB (by unfold maxLen; omega), LayG.one hx⟩
/-- What lies on top. -/
theorem OwnG.top (h : OwnG E w B e s (.slice (some ⟨g, 0, none⟩) m cap) (xs ++ [x])) (hE : ∀ x c, E x c → c.length = s) : ∃ c, E x c ∧ (∀ i u, c[i]? = some u → w.cell? ⟨g, xs.length * s + i, none⟩ = some u ∧ w.frozen? ⟨g, xs.length * s + i, none⟩ = false) ∧
    OwnG E w B e s (.slice (some ⟨g, 0, none⟩) xs.length cap) xs := by
  obtain ⟨cs, h1, h2⟩ := h
  obtain ⟨c, c', rfl, h3, h4⟩ := h2.snoc
  have hl := h3.length hE
  refine ⟨c', h4, fun i u hu => ?_, c, ?_, h3⟩
  · have hi : i < c'.length := by
      rcases Nat.lt_or_ge i c'.length with h | h
      · exact h
      · rw [List.getElem?_eq_none h] at hu; cases hu
    have hlt : xs.length * s + i < (xs ++ [x]).length * s := by
      rw [hE _ _ h4] at hi
      rw [List.length_append, List.length_singleton, Nat.add_mul, Nat.one_mul]
      omega
    have := oc_cell h1 hlt
    rw [List.getElem?_append_right (by omega), hl, show xs.length * s + i - xs.length * s = i by omega, hu] at this
    exact this
  · have := oc_cut h1 (k := xs.length) (by simp)
    rwa [← hl, List.take_left] at this
/-- What lies on top, of one cell, is written. -/
theorem OwnG.setTop (h : OwnG E w B e 1 (.slice (some ⟨g, 0, none⟩) m cap) (xs ++ [x])) (hE : ∀ x c, E x c → c.length = 1) {u : Value} (hu : E x' [u]) : OwnG E (w.setCell ⟨g, xs.length, none⟩ u) B e 1 (.slice (some ⟨g, 0, none⟩) m cap) (xs ++ [x']) := by
  obtain ⟨cs, h1, h2⟩ := h
  obtain ⟨c, c', rfl, h3, h4⟩ := h2.snoc
  have hl := h3.length hE
  have hc' := hE _ _ h4
  obtain ⟨y, rfl⟩ : ∃ y, c' = [y] := List.length_eq_one_iff.1 hc'
  refine ⟨c ++ [u], ?_, h3.append (LayG.one hu)⟩
  have := oc_put h1 xs.length u
  rw [List.length_append, List.length_singleton] at this ⊢
  rwa [show (c ++ [y]).set xs.length u = c ++ [u] by rw [List.set_append_right _ _ (by omega), show xs.length - c.length = 0 by omega]; rfl] at this
/-- One more is laid on top. -/
theorem OwnG.push {P : Program} {t ty : TypeId} {bytes : Nat} {z : Value} (ht : P.underlying t = some (.slice e)) (hi : (P.info? e).map (fun i => (i.zero, i.size, i.bytes)) = some (some z, s, bytes)) (hzs : z.cells.size = s) (hsz : 0 < s) (hby : bytes ≤ 64)
    (h : OwnG E w B e s v xs) {a : Addr} {k : Nat} (hx : E x c) (hl : c.length = s) (hc : ∀ j u, c[j]? = some u → w.cell? (a.add j) = some u) (h1 : ∀ u ∈ c, u.oneCell' = true) (hb : xs.length + 1 ≤ 1099511627776) (hB : B ≤ w.heap.size) :
    ∃ v' w', (Builtin.append_ #[t, t] ty #[v, .slice (some a) 1 k]).run P w = .ok v' w' ∧ OwnG E w' B e s v' (xs ++ [x]) ∧ Below B w w' ∧ w.grownBy w' v.ownBlock ∧ (v'.ownBlock = v.ownBlock ∨ v'.ownBlock = some w.heap.size) := by
  obtain ⟨cs, o1, l1⟩ := h
  obtain ⟨v', w', r1, r2, r3, r4, r5⟩ := oc_append (P := P) (t := t) (ty := ty) (m := 1) (c := k) (news := c) ht hi hzs hsz hby o1 (by omega) hc h1 hb hB
  exact ⟨v', w', r1, ⟨cs ++ c, by rw [List.length_append, List.length_singleton]; exact r2, l1.append (LayG.one hx)⟩, r3, r4, r5⟩
end
end Go.Proofs.Ytbecflehidcbdaa
