/- Package auto: the machine goes through a head, and through a text, as the scan does. -/
import Derived.Test.YtchhbcmkhbfpoaaKAT
namespace Go.Proofs.Ytchhbcmkhbfpoaa

theorem HSt.opn {L : List Int} {k : Nat} {q : HQ} (h : HSt L k q) : q.opn = false ↔ k = 0 := by
  rcases h with ⟨h0, rfl⟩ | ⟨h1, _, _, _, _, rfl⟩
  · simp [h0, hq0]
  · simp; omega
theorem mem_ite {α} {P : Prop} [Decidable P] {x n : α} : n ∈ (if P then [x] else []) ↔ P ∧ n = x := by split <;> simp_all
theorem mem_hnotes {D K i : Nat} {st : List Fr} {q : HQ} {c : Int} {n : Note} : n ∈ hnotes D K i st q c ↔ (herr q c = 2 ∧ n = (i, 2)) ∨ (q.opn = false ∧ D < st.length + 1 ∧ n = (i, 3)) ∨ Kn K st i (i + 1) n ∨ (herr q c = 5 ∧ n = (i, 5)) := by
  unfold hnotes
  rw [List.mem_append, List.mem_append, List.mem_append, kn_one, mem_ite, mem_ite, mem_ite, and_assoc]
/-- An item stands too deep. -/
def Dn (D : Nat) (B : List Int) (st : List Fr) (a : Nat) (n : Note) : Prop := D < st.length + 1 ∧ a < B.length ∧ n = (a, 3)
def HeadRun (D K : Nat) (B : List Int) (a k : Nat) (q : HQ) (st : List Fr) : Prop :=
  ((hread (B.drop a)).e = 9 ∧ ∃ q' N, Goes D K B (a + k) ⟨st, .head q⟩ B.length ⟨st.map (Fr.feeds (slice B (a + k) B.length)), .head q'⟩ N [] ∧ ∀ n, n ∈ N ↔ (k = 0 ∧ Dn D B st a n) ∨ Kn K st (a + k) B.length n) ∨
  ((hread (B.drop a)).many = 0 ∧ ((hread (B.drop a)).e = 2 ∨ (hread (B.drop a)).e = 5) ∧ ∃ (p : Nat) (q' : HQ) (N : List Note), (hread (B.drop a)).place = p ∧ k ≤ p ∧ a + p < B.length ∧
    Goes D K B (a + k) ⟨st, .head q⟩ (a + p) ⟨st.map (Fr.feeds (slice B (a + k) (a + p))), .head q'⟩ N [] ∧
    (bstep D K (a + p) ⟨st.map (Fr.feeds (slice B (a + k) (a + p))), .head q'⟩ (B.getD (a + p) 0)).next = none ∧ (bstep D K (a + p) ⟨st.map (Fr.feeds (slice B (a + k) (a + p))), .head q'⟩ (B.getD (a + p) 0)).notes ≠ [] ∧
    ∀ n, n ∈ N ++ (bstep D K (a + p) ⟨st.map (Fr.feeds (slice B (a + k) (a + p))), .head q'⟩ (B.getD (a + p) 0)).notes ↔ (k = 0 ∧ Dn D B st a n) ∨ n = (a + p, (hread (B.drop a)).e) ∨ Kn K st (a + k) (a + p + 1) n) ∨
  (∃ m : Nat, (hread (B.drop a)).many = m ∧ k < m ∧ a + m ≤ B.length ∧ ((hread (B.drop a)).e = 0 ∨ (hread (B.drop a)).e = 5 ∧ (hread (B.drop a)).place = (m : Int) - 1) ∧ ∃ N,
    Goes D K B (a + k) ⟨st, .head q⟩ (a + m) (enter (st.map (Fr.feeds (slice B (a + k) (a + m)))) (hread (B.drop a)).major (hread (B.drop a)).arg) N
      [⟨1, (hread (B.drop a)).major, (hread (B.drop a)).width, (hread (B.drop a)).arg, 0, st.length + 1, a + m - 1⟩] ∧
    ∀ n, n ∈ N ↔ (k = 0 ∧ Dn D B st a n) ∨ ((hread (B.drop a)).e ≠ 0 ∧ n = (a + m - 1, (hread (B.drop a)).e)) ∨ Kn K st (a + k) (a + m) n)
theorem head_run (D K : Nat) (B : List Int) (a : Nat) (m : Nat) : ∀ (k : Nat) (q : HQ) (st : List Fr), (B.drop a).length - k = m → k ≤ (B.drop a).length → a ≤ B.length → HSt (B.drop a) k q → HeadRun D K B a k q st := by
  induction m with
  | zero =>
    intro k q st hm hk ha h
    have hl : (B.drop a).length = B.length - a := List.length_drop
    obtain rfl : k = (B.drop a).length := by omega
    have e : a + (B.drop a).length = B.length := by omega
    refine .inl ⟨by rw [h.last]; rfl, q, [], ?_, ?_⟩
    · rw [e, slice_nil, map_feeds_nil]; exact .refl _ _
    · intro n
      rw [e]
      constructor
      · intro hn; cases hn
      · rintro (⟨h0, _, h1, _⟩ | h)
        · omega
        · exact (Kn.none h).elim
  | succ m ih =>
    intro k q st hm hk ha h
    have hl : (B.drop a).length = B.length - a := List.length_drop
    have hc : (B.drop a).getD k 0 = B.getD (a + k) 0 := getD_drop B a k
    have hs := h.step2 (k := k) (by omega)
    rw [hc] at hs
    have hi : a + k < B.length := by omega
    have hmn : ∀ n, n ∈ hnotes D K (a + k) st q (B.getD (a + k) 0) ↔ (herr q (B.getD (a + k) 0) = 2 ∧ n = (a + k, 2)) ∨ (k = 0 ∧ Dn D B st a n) ∨ Kn K st (a + k) (a + k + 1) n ∨ (herr q (B.getD (a + k) 0) = 5 ∧ n = (a + k, 5)) := by
      intro n
      rw [mem_hnotes, h.opn]
      unfold Dn
      constructor
      · rintro (h | ⟨h0, h1, h2⟩ | h | h)
        · exact .inl h
        · exact .inr (.inl ⟨h0, h1, by omega, by rw [h2, h0]; rfl⟩)
        · exact .inr (.inr (.inl h))
        · exact .inr (.inr (.inr h))
      · rintro (h | ⟨h0, h1, _, h2⟩ | h | h)
        · exact .inl h
        · exact .inr (.inl ⟨h0, h1, by rw [h2, h0]; rfl⟩)
        · exact .inr (.inr (.inl h))
        · exact .inr (.inr (.inr h))
    have hb : bstep D K (a + k) ⟨st, .head q⟩ (B.getD (a + k) 0) = ⟨if hdone q (B.getD (a + k) 0) then some (enter (st.map (Fr.feeds [B.getD (a + k) 0])) (hstep q (B.getD (a + k) 0)).major (hstep q (B.getD (a + k) 0)).arg) else if herr q (B.getD (a + k) 0) = 0 then some ⟨st.map (Fr.feeds [B.getD (a + k) 0]), .head (hstep q (B.getD (a + k) 0))⟩ else none,
      hnotes D K (a + k) st q (B.getD (a + k) 0), if hdone q (B.getD (a + k) 0) then [⟨1, (hstep q (B.getD (a + k) 0)).major, (hstep q (B.getD (a + k) 0)).width, (hstep q (B.getD (a + k) 0)).arg, 0, st.length + 1, a + k⟩] else []⟩ := rfl
    have hsl : slice B (a + k) (a + k + 1) = [B.getD (a + k) 0] := by rw [slice_cons (by omega) (by omega), slice_nil]
    generalize hd : hdone q (B.getD (a + k) 0) = d at *
    generalize he : herr q (B.getD (a + k) 0) = e at *
    generalize hq' : hstep q (B.getD (a + k) 0) = q' at *
    generalize hnotes D K (a + k) st q (B.getD (a + k) 0) = N0 at *
    cases hs with
    | bad e q' he2 hr =>
      refine .inr (.inl ?_)
      rw [hr]
      refine ⟨rfl, he2, k, q, [], rfl, Nat.le_refl _, hi, ?_, ?_, ?_, ?_⟩
      · rw [slice_nil, map_feeds_nil]; exact .refl _ _
      · rw [slice_nil, map_feeds_nil, hb]
        dsimp only
        rw [if_neg (by decide), if_neg (by omega)]
      · rw [slice_nil, map_feeds_nil, hb]
        dsimp only
        rcases he2 with rfl | rfl
        · exact List.ne_nil_of_mem ((hmn _).2 (.inl ⟨rfl, rfl⟩))
        · exact List.ne_nil_of_mem ((hmn _).2 (.inr (.inr (.inr ⟨rfl, rfl⟩))))
      · intro n
        rw [slice_nil, map_feeds_nil, hb, List.nil_append]
        dsimp only [hnone]
        rw [hmn]
        rcases he2 with rfl | rfl
        · constructor
          · rintro (⟨_, h⟩ | h | h | ⟨h, _⟩)
            · exact .inr (.inl h)
            · exact .inl h
            · exact .inr (.inr h)
            · exact absurd h (by decide)
          · rintro (h | h | h)
            · exact .inr (.inl h)
            · exact .inl ⟨rfl, h⟩
            · exact .inr (.inr (.inl h))
        · constructor
          · rintro (⟨h, _⟩ | h | h | ⟨_, h⟩)
            · exact absurd h (by decide)
            · exact .inl h
            · exact .inr (.inr h)
            · exact .inr (.inl h)
          · rintro (h | h | h)
            · exact .inr (.inl h)
            · exact .inr (.inr (.inr ⟨rfl, h⟩))
            · exact .inr (.inr (.inl h))
    | whole e q' he2 hr =>
      refine .inr (.inr ⟨k + 1, by rw [hr]; rfl, Nat.lt_succ_self _, by omega, ?_, N0, ?_, ?_⟩)
      · rw [hr]
        rcases he2 with rfl | rfl
        · exact .inl rfl
        · exact .inr ⟨rfl, by simp⟩
      · rw [hr, ← Nat.add_assoc, hsl]
        refine Goes.one hi rfl ?_ ?_ ?_
        · rw [hb]; rfl
        · rw [hb]
        · rw [hb]; rfl
      · intro n
        rw [hmn, hr, ← Nat.add_assoc]
        dsimp only
        rw [show a + k + 1 - 1 = a + k by omega]
        rcases he2 with rfl | rfl
        · constructor
          · rintro (⟨h, _⟩ | h | h | ⟨h, _⟩)
            · exact absurd h (by decide)
            · exact .inl h
            · exact .inr (.inr h)
            · exact absurd h (by decide)
          · rintro (h | ⟨h, _⟩ | h)
            · exact .inr (.inl h)
            · exact absurd rfl h
            · exact .inr (.inr (.inl h))
        · constructor
          · rintro (⟨h, _⟩ | h | h | ⟨_, h⟩)
            · exact absurd h (by decide)
            · exact .inl h
            · exact .inr (.inr h)
            · exact .inr (.inl ⟨by decide, h⟩)
          · rintro (h | ⟨_, h⟩ | h)
            · exact .inr (.inl h)
            · exact .inr (.inr (.inr ⟨rfl, h⟩))
            · exact .inr (.inr (.inl h))
    | more q' hq =>
      have hone : Goes D K B (a + k) ⟨st, .head q⟩ (a + k + 1) ⟨st.map (Fr.feeds [B.getD (a + k) 0]), .head q'⟩ N0 [] := Goes.one hi rfl (by rw [hb]; rfl) (by rw [hb]) (by rw [hb]; rfl)
      have hN0 : ∀ n, n ∈ N0 ↔ (k = 0 ∧ Dn D B st a n) ∨ Kn K st (a + k) (a + k + 1) n := by
        intro n
        rw [hmn]
        constructor
        · rintro (⟨h, _⟩ | h | h | ⟨h, _⟩)
          · exact absurd h (by decide)
          · exact .inl h
          · exact .inr h
          · exact absurd h (by decide)
        · rintro (h | h)
          · exact .inr (.inl h)
          · exact .inr (.inr (.inl h))
      have hlen : (st.map (Fr.feeds [B.getD (a + k) 0])).length = st.length := List.length_map _
      have hk1 : ∀ {P : Prop}, ¬ (k + 1 = 0 ∧ P) := fun h => by omega
      have HI := ih (k + 1) q' (st.map (Fr.feeds [B.getD (a + k) 0])) (by omega) (by omega) ha hq
      unfold HeadRun at HI
      rw [← Nat.add_assoc, hlen, ← hsl] at HI
      simp only [map_feeds] at HI
      rcases HI with ⟨h9, q2, N, hg, hN⟩ | ⟨h0, h25, p, q2, N, hp, hkp, hap, hg, hnx, hne, hN⟩ | ⟨m', hm', hkm, ham, he2, N, hg, hN⟩
      · refine .inl ⟨h9, q2, N0 ++ N, ?_, ?_⟩
        · rw [slice_add (by omega) (by omega)] at hg
          rw [hsl] at hg
          exact hone.trans hg
        · intro n
          rw [List.mem_append, hN0, hN, ← kn_add (B := B) (show a + k ≤ a + k + 1 by omega) (show a + k + 1 ≤ B.length by omega) (by omega)]
          simp only [hk1, false_or, or_assoc]
      · rw [slice_add (by omega) (by omega)] at hg hnx hne hN
        refine .inr (.inl ⟨h0, h25, p, q2, N0 ++ N, hp, by omega, hap, ?_, hnx, hne, ?_⟩)
        · rw [hsl] at hg
          exact hone.trans hg
        · intro n
          rw [List.append_assoc, List.mem_append, hN0, hN, ← kn_add (B := B) (show a + k ≤ a + k + 1 by omega) (show a + k + 1 ≤ a + p + 1 by omega) (show a + k + 1 ≤ B.length by omega)]
          simp only [hk1, false_or, or_assoc]
          constructor
          · rintro (h | h | h | h)
            · exact .inl h
            · exact .inr (.inr (.inl h))
            · exact .inr (.inl h)
            · exact .inr (.inr (.inr h))
          · rintro (h | h | h | h)
            · exact .inl h
            · exact .inr (.inr (.inl h))
            · exact .inr (.inl h)
            · exact .inr (.inr (.inr h))
      · rw [slice_add (by omega) (by omega)] at hg
        refine .inr (.inr ⟨m', hm', by omega, ham, he2, N0 ++ N, ?_, ?_⟩)
        · rw [hsl] at hg
          exact hone.trans hg
        · intro n
          rw [List.mem_append, hN0, hN, ← kn_add (B := B) (show a + k ≤ a + k + 1 by omega) (show a + k + 1 ≤ a + m' by omega) (show a + k + 1 ≤ B.length by omega)]
          simp only [hk1, false_or, or_assoc]
          constructor
          · rintro (h | h | h | h)
            · exact .inl h
            · exact .inr (.inr (.inl h))
            · exact .inr (.inl h)
            · exact .inr (.inr (.inr h))
          · rintro (h | h | h | h)
            · exact .inl h
            · exact .inr (.inr (.inl h))
            · exact .inr (.inl h)
            · exact .inr (.inr (.inr h))

theorem unotes_cons (wh : Bool) (u : UQ) (c : Int) (r : List Int) (i : Nat) : unotes wh u (c :: r) i = (if !u.wr && ((ustep u c).wr || (wh && r.isEmpty && !udone (ustep u c))) then [(i, 6)] else []) ++ unotes wh (ustep u c) r (i + 1) := rfl
/-- A text of n bytes, all of which there are (wh), or as many of them as there are. -/
theorem text_run (D K : Nat) (B : List Int) (t : Bool) (wh : Bool) (m : Nat) : ∀ (i : Nat) (n : Int) (u : UQ) (st : List Fr), i + m ≤ B.length → (if wh then n = m else i + m = B.length ∧ (m : Int) < n) → 0 < n → (wh = true → 0 < m) →
    ∃ N s', Goes D K B i ⟨st, .text n t u⟩ (i + m) s' N (bevs (st.length + 1) (slice B i (i + m)) i) ∧
      (if wh then s' = ⟨st.map (Fr.feeds (slice B i (i + m))), .ended⟩ else ∃ n' u', s' = ⟨st.map (Fr.feeds (slice B i (i + m))), .text n' t u'⟩) ∧
      ∀ x, x ∈ N ↔ (t = true ∧ x ∈ unotes wh u (slice B i (i + m)) i) ∨ Kn K st i (i + m) x := by
  induction m with
  | zero =>
    intro i n u st hi hn h0 hw
    have hwh : wh = false := by cases wh; rfl; exact absurd (hw rfl) (by omega)
    subst hwh
    refine ⟨[], _, by rw [Nat.add_zero, slice_nil]; exact .refl _ _, ?_, ?_⟩
    · rw [if_neg (by decide)]
      exact ⟨n, u, by rw [Nat.add_zero, slice_nil, map_feeds_nil]⟩
    · intro x
      rw [Nat.add_zero, slice_nil]
      constructor
      · intro h; cases h
      · rintro (⟨_, h⟩ | h)
        · cases h
        · exact (Kn.none h).elim
  | succ m ih =>
    intro i n u st hi hn h0 hw
    have hib : i < B.length := by omega
    have hsl : slice B i (i + 1) = [B.getD i 0] := by rw [slice_cons (by omega) (by omega), slice_nil]
    have hsc : slice B i (i + (m + 1)) = B.getD i 0 :: slice B (i + 1) (i + 1 + m) := by rw [slice_cons (by omega) hi, show i + (m + 1) = i + 1 + m by omega]
    have hb : bstep D K i ⟨st, .text n t u⟩ (B.getD i 0) = ⟨some (if n = 1 then ⟨st.map (Fr.feeds [B.getD i 0]), .ended⟩ else ⟨st.map (Fr.feeds [B.getD i 0]), .text (n - 1) t (if t then ustep u (B.getD i 0) else u)⟩), tnotes K i st n t u (B.getD i 0), [⟨2, 0, 0, 0, B.getD i 0, st.length + 1, i⟩]⟩ := rfl
    have hlen : (st.map (Fr.feeds [B.getD i 0])).length = st.length := List.length_map _
    generalize hN0 : tnotes K i st n t u (B.getD i 0) = N0 at *
    have hm : (slice B (i + 1) (i + 1 + m)).isEmpty = decide (m = 0) := by
      have := length_slice (B := B) (a := i + 1) (b := i + 1 + m) (by omega)
      cases hx : slice B (i + 1) (i + 1 + m) with
      | nil => rw [hx] at this; simp at this; simp; omega
      | cons y ys => rw [hx] at this; simp at this; simp; omega
    have hmem : ∀ x, x ∈ N0 ↔ (t = true ∧ x ∈ (if !u.wr && ((ustep u (B.getD i 0)).wr || (wh && (slice B (i + 1) (i + 1 + m)).isEmpty && !udone (ustep u (B.getD i 0)))) then [((i, 6) : Note)] else [])) ∨ Kn K st i (i + 1) x := by
      intro x
      rw [← hN0]
      unfold tnotes
      rw [List.mem_append, kn_one, or_comm, hm]
      have hone : (n == 1) = (wh && decide (m = 0)) := by
        cases wh
        · simp at hn ⊢; omega
        · simp at hn ⊢
          rw [hn]
          by_cases h : m = 0
          · simp [h]
          · simp [h]; omega
      rw [hone]
      cases t <;> simp
    by_cases hn1 : n = 1
    · have hwm : wh = true ∧ m = 0 := by
        cases wh
        · simp at hn; omega
        · simp at hn; exact ⟨rfl, by omega⟩
      obtain ⟨rfl, rfl⟩ := hwm
      rw [if_pos hn1] at hb
      refine ⟨N0, _, ?_, by rw [if_pos rfl], ?_⟩
      · rw [hsc, Nat.zero_add]
        refine Goes.one hib rfl ?_ (by rw [hb]) (by rw [hb, slice_nil]; rfl)
        rw [hb, Nat.add_zero, slice_nil]
      · intro x
        rw [hmem, hsc]
        unfold unotes
        rw [Nat.add_zero, slice_nil]
        unfold unotes
        rw [List.append_nil]
    · rw [if_neg hn1] at hb
      have hwm : wh = true → 0 < m := by
        intro hw; subst hw; simp at hn; omega
      obtain ⟨N, s', hg, hs', hN⟩ := ih (i + 1) (n - 1) (if t then ustep u (B.getD i 0) else u) (st.map (Fr.feeds [B.getD i 0])) (by omega) (by cases wh <;> simp at hn ⊢ <;> omega) (by omega) hwm
      rw [hlen] at hg
      refine ⟨N0 ++ N, s', ?_, ?_, ?_⟩
      · have := Goes.byte (D := D) (K := K) (s := ⟨st, .text n t u⟩) hib (by rw [hb]) hg
        rw [hb] at this
        rw [hsc, show i + (m + 1) = i + 1 + m by omega]
        exact this
      · rw [← hsl, map_feeds, slice_add (by omega) (by omega), show i + 1 + m = i + (m + 1) by omega] at hs'
        exact hs'
      · intro x
        rw [List.mem_append, hmem, hN, hsc, unotes_cons]
        rw [show i + (m + 1) = i + 1 + m by omega, ← kn_add (B := B) (a := i) (b := i + 1) (c := i + 1 + m) (by omega) (by omega) (by omega), hsl]
        cases t
        · simp
        · simp only [List.mem_append, true_and, if_true]
          constructor
          · rintro ((h | h) | h | h)
            · exact .inl (.inl h)
            · exact .inr (.inl h)
            · exact .inl (.inr h)
            · exact .inr (.inr h)
          · rintro ((h | h) | h | h)
            · exact .inl (.inl h)
            · exact .inr (.inl h)
            · exact .inl (.inr h)
            · exact .inr (.inr h)
end Go.Proofs.Ytchhbcmkhbfpoaa

/- Package auto: the machine goes through an item as the scan does. -/
namespace Go.Proofs.Ytchhbcmkhbfpoaa

/-- The machine can't go on there: the bytes are at their end, or the head is wrong. -/
def Halt (D K : Nat) (B : List Int) (w : Nat) (s : AQ) : Prop :=
  (w = B.length ∧ ((∃ q, s.ctl = .head q) ∨ ∃ n t u, s.ctl = .text n t u)) ∨ (w < B.length ∧ (∃ q, s.ctl = .head q) ∧ (bstep D K w s (B.getD w 0)).next = none ∧ (bstep D K w s (B.getD w 0)).notes ≠ [])
noncomputable def hnts (D K : Nat) (B : List Int) (w : Nat) (s : AQ) : List Note := if w < B.length then (bstep D K w s (B.getD w 0)).notes else []
structure Sim (D K : Nat) (B : List Int) (a : Nat) (s0 : AQ) (st : List Fr) (r : Sc) (E : List AEv) (s1 : AQ) : Prop where
  ok : r.ok = true → a ≤ r.to ∧ r.to ≤ B.length ∧ ∃ N, Goes D K B a s0 r.to s1 N E ∧ ∀ n, n ∈ N ↔ n ∈ r.notes ∨ Kn K st a r.to n
  no : r.ok = false → ∃ w s N, a ≤ w ∧ w ≤ B.length ∧ Goes D K B a s0 w s N r.evs ∧ Halt D K B w s ∧ ∀ n : Note, (n.1 ≤ w ∨ w = B.length) → (n ∈ N ++ hnts D K B w s ↔ n ∈ r.notes ∨ Kn K st a B.length n)
section
variable {D K : Nat} {B : List Int}
theorem Sim.after {a b s0 s1 st N1 E1 P1 r E s2} (hab : a ≤ b) (hb : b ≤ B.length) (g : Goes D K B a s0 b s1 N1 E1) (hN : ∀ n, n ∈ N1 ↔ n ∈ P1 ∨ Kn K st a b n)
    (h : Sim D K B b s1 (st.map (Fr.feeds (slice B a b))) r E s2) : Sim D K B a s0 st ⟨P1 ++ r.notes, E1 ++ r.evs, r.to, r.ok⟩ (E1 ++ E) s2 where
  ok hk := by
    obtain ⟨h1, h2, N, g2, hN2⟩ := h.ok hk
    refine ⟨by show a ≤ r.to; omega, h2, N1 ++ N, g.trans g2, fun n => ?_⟩
    show _ ↔ n ∈ P1 ++ r.notes ∨ Kn K st a r.to n
    rw [List.mem_append, List.mem_append, hN, hN2, ← kn_add (B := B) hab h1 hb]
    constructor
    · rintro ((h | h) | h | h)
      · exact .inl (.inl h)
      · exact .inr (.inl h)
      · exact .inl (.inr h)
      · exact .inr (.inr h)
    · rintro ((h | h) | h | h)
      · exact .inl (.inl h)
      · exact .inr (.inl h)
      · exact .inl (.inr h)
      · exact .inr (.inr h)
  no hk := by
    obtain ⟨w, s, N, h1, h2, g2, hh, hN2⟩ := h.no hk
    refine ⟨w, s, N1 ++ N, by omega, h2, g.trans g2, hh, fun n hn => ?_⟩
    have := hN2 n hn
    show _ ↔ n ∈ P1 ++ r.notes ∨ Kn K st a B.length n
    rw [List.append_assoc, List.mem_append, hN, this, List.mem_append, ← kn_add (B := B) hab hb hb]
    constructor
    · rintro ((h | h) | h | h)
      · exact .inl (.inl h)
      · exact .inr (.inl h)
      · exact .inl (.inr h)
      · exact .inr (.inr h)
    · rintro ((h | h) | h | h)
      · exact .inl (.inl h)
      · exact .inr (.inl h)
      · exact .inl (.inr h)
      · exact .inr (.inr h)
theorem Sim.congr {a s0 st r r' E s1} (h : Sim D K B a s0 st r E s1) (he : r'.evs = r.evs ∨ r.ok = true) (ht : r'.to = r.to) (hk : r'.ok = r.ok)
    (hn : ∀ n, (n ∈ r'.notes ∨ Kn K st a (if r.ok then r.to else B.length) n) ↔ (n ∈ r.notes ∨ Kn K st a (if r.ok then r.to else B.length) n)) : Sim D K B a s0 st r' E s1 where
  ok h' := by
    rw [hk] at h'
    obtain ⟨h1, h2, N, g, hN⟩ := h.ok h'
    rw [ht]
    refine ⟨h1, h2, N, g, fun n => ?_⟩
    have := hn n
    rw [h', if_pos rfl] at this
    rw [hN, this]
  no h' := by
    rw [hk] at h'
    obtain ⟨w, s, N, h1, h2, g, hh, hN⟩ := h.no h'
    have he' : r'.evs = r.evs := by
      rcases he with h | h
      · exact h
      · rw [h'] at h; cases h
    rw [he']
    refine ⟨w, s, N, h1, h2, g, hh, fun n hw => ?_⟩
    have := hn n
    rw [h', if_neg (by decide)] at this
    rw [hN n hw, this]
theorem Sim.refl {a st s} (hb : a ≤ B.length) : Sim D K B a s st ⟨[], [], a, true⟩ [] s where
  ok _ := ⟨Nat.le_refl _, hb, [], .refl _ _, fun n => ⟨fun h => (by cases h), fun h => by rcases h with h | h; cases h; exact (Kn.none h).elim⟩⟩
  no h := by cases h
theorem kn_drop {f0 : Fr} {st : List Fr} {a b : Nat} {n : Note} (h : f0.waits = false) : Kn K (f0 :: st) a b n ↔ Kn K st a b n := by
  constructor
  · rintro ⟨h1, h2, h3, f, hf, hw, he⟩
    rcases List.mem_cons.1 hf with rfl | hf
    · rw [h] at hw; cases hw
    · exact ⟨h1, h2, h3, f, hf, hw, he⟩
  · rintro ⟨h1, h2, h3, f, hf, hw, he⟩
    exact ⟨h1, h2, h3, f, List.mem_cons_of_mem _ hf, hw, he⟩
theorem kn_key {f0 : Fr} {st : List Fr} {a b : Nat} {n : Note} {P : Prop} (hc : f0.cur = []) (hP : K < b - a → n = (a + K, 4) → P) : (P ∨ Kn K (f0 :: st) a b n) ↔ (P ∨ Kn K st a b n) := by
  constructor
  · rintro (h | ⟨h1, h2, h3, f, hf, hw, he⟩)
    · exact .inl h
    · rcases List.mem_cons.1 hf with rfl | hf
      · rw [hc] at he
        simp only [List.length_nil] at he
        exact .inl (hP (by omega) (Prod.ext (by show n.1 = a + K; omega) h1))
      · exact .inr ⟨h1, h2, h3, f, hf, hw, he⟩
  · rintro (h | ⟨h1, h2, h3, f, hf, hw, he⟩)
    · exact .inl h
    · exact .inr ⟨h1, h2, h3, f, List.mem_cons_of_mem _ hf, hw, he⟩
theorem Fr.feeds_still {f : Fr} (h : f.waits = false) (xs : List Int) : f.feeds xs = f := if_neg (by rw [h]; decide)
end

theorem estep_cons (i : Nat) (f : Fr) (st : List Fr) : estep i (f :: st) = if f.waits then (begins (f.keyed :: st), onotes i f, [endEv true (st.length + 2) i]) else (if f.left = 1 then ⟨st, .ended⟩ else begins (f.less :: st), [], [endEv false (st.length + 2) i]) := rfl
/-- An item's scan. -/
def ItemSim (D K : Nat) (B : List Int) (a : Nat) (st : List Fr) (key : Bool) (r : Sc) : Prop :=
  ∃ E, (r.ok = true → r.evs = E ++ [endEv key (st.length + 1) r.to]) ∧ Sim D K B a (begins st) st r E ⟨st.map (Fr.feeds (slice B a r.to)), .ended⟩ ∧
    (key = true → K < (if r.ok then r.to else B.length) - a → (a + K, 4) ∈ r.notes)
section
variable {D K : Nat} {B : List Int}
theorem many_sim (lim : Nat) (item : Nat → Sc) (d : Nat) (hitem : ∀ a st, lim ≤ a → a ≤ B.length → st.length = d → (∀ f st', st = f :: st' → f.waits = false) → ItemSim D K B a st false (item a)) (n : Nat) :
    ∀ (a : Nat) (f0 : Fr) (st : List Fr), f0.kind ≠ 5 → f0.left = (n + 1 : Nat) → lim ≤ a → a ≤ B.length → st.length + 1 = d →
      Sim D K B a (begins (f0 :: st)) st (scMany item (n + 1) a) (scMany item (n + 1) a).evs ⟨st.map (Fr.feeds (slice B a (scMany item (n + 1) a).to)), .ended⟩ := by
  induction n with
  | zero =>
    intro a f0 st hk hl hlim ha hd
    have hw : f0.waits = false := by unfold Fr.waits; simp [hk]
    obtain ⟨E, hE, hS, _⟩ := hitem a (f0 :: st) hlim ha (by simpa using hd) (fun f st' e => by injection e with e1 e2; rw [← e1]; exact hw)
    have hm : scMany item 1 a = if (item a).ok then ⟨(item a).notes ++ [], (item a).evs ++ [], (item a).to, true⟩ else item a := rfl
    cases hok : (item a).ok with
    | true =>
      rw [hok, if_pos rfl, List.append_nil, List.append_nil] at hm
      rw [hm]
      obtain ⟨h1, h2, N, g, hN⟩ := hS.ok hok
      have hev := hE hok
      refine ⟨fun _ => ⟨h1, h2, N, ?_, fun n => by rw [hN, kn_drop hw]⟩, fun h => by cases h⟩
      show Goes D K B a (begins (f0 :: st)) (item a).to _ N (item a).evs
      rw [hev]
      have g2 : Goes D K B (item a).to ⟨(f0 :: st).map (Fr.feeds (slice B a (item a).to)), .ended⟩ (item a).to ⟨st.map (Fr.feeds (slice B a (item a).to)), .ended⟩ [] [endEv false ((f0 :: st).length + 1) (item a).to] := by
        refine Goes.end1 rfl ?_
        show estep _ (f0.feeds _ :: st.map _) = _
        rw [Fr.feeds_still hw]
        rw [estep_cons, hw, if_neg (by decide), if_pos (by rw [hl]; rfl), List.length_map]
        rfl
      have := g.trans g2
      rwa [List.append_nil] at this
    | false =>
      rw [hok, if_neg (by decide)] at hm
      rw [hm]
      refine ⟨fun h => (by rw [hok] at h; cases h), fun h => ?_⟩
      obtain ⟨w, s, N, h1, h2, g, hh, hN⟩ := hS.no hok
      exact ⟨w, s, N, h1, h2, g, hh, fun n hn => by rw [hN n hn, kn_drop hw]⟩
  | succ n ih =>
    intro a f0 st hk hl hlim ha hd
    have hw : f0.waits = false := by unfold Fr.waits; simp [hk]
    obtain ⟨E, hE, hS, _⟩ := hitem a (f0 :: st) hlim ha (by simpa using hd) (fun f st' e => by injection e with e1 e2; rw [← e1]; exact hw)
    have hm : scMany item (n + 1 + 1) a = if (item a).ok then ⟨(item a).notes ++ (scMany item (n + 1) (item a).to).notes, (item a).evs ++ (scMany item (n + 1) (item a).to).evs, (scMany item (n + 1) (item a).to).to, (scMany item (n + 1) (item a).to).ok⟩ else item a := rfl
    cases hok : (item a).ok with
    | true =>
      rw [hok, if_pos rfl] at hm
      rw [hm]
      obtain ⟨h1, h2, N, g, hN⟩ := hS.ok hok
      have hev := hE hok
      have g2 : Goes D K B (item a).to ⟨(f0 :: st).map (Fr.feeds (slice B a (item a).to)), .ended⟩ (item a).to (begins (f0.less :: st.map (Fr.feeds (slice B a (item a).to)))) [] [endEv false ((f0 :: st).length + 1) (item a).to] := by
        refine Goes.end1 rfl ?_
        show estep _ (f0.feeds _ :: st.map _) = _
        rw [Fr.feeds_still hw]
        rw [estep_cons, hw, if_neg (by decide), if_neg (by rw [hl]; omega), List.length_map]
        rfl
      have g3 := g.trans g2
      rw [List.append_nil, ← hev] at g3
      have hI := ih (item a).to f0.less (st.map (Fr.feeds (slice B a (item a).to))) hk (by show f0.left - 1 = _; rw [hl]; omega) (by omega) h2 (by rw [List.length_map]; exact hd)
      have := Sim.after (P1 := (item a).notes) (st := st) h1 h2 g3 (fun n => by rw [hN, kn_drop hw]) hI
      refine ⟨fun h' => ?_, this.no⟩
      obtain ⟨k1, k2, N', g', hN'⟩ := this.ok h'
      refine ⟨k1, k2, N', ?_, hN'⟩
      rw [map_feeds, slice_add h1 (hI.ok h').1] at g'
      exact g'
    | false =>
      rw [hok, if_neg (by decide)] at hm
      rw [hm]
      refine ⟨fun h => (by rw [hok] at h; cases h), fun h => ?_⟩
      obtain ⟨w, s, N, h1, h2, g, hh, hN⟩ := hS.no hok
      exact ⟨w, s, N, h1, h2, g, hh, fun n hn => by rw [hN n hn, kn_drop hw]⟩
end
end Go.Proofs.Ytchhbcmkhbfpoaa

/- Package auto: the machine goes through an item as the scan does; maps, whole items. -/
namespace Go.Proofs.Ytchhbcmkhbfpoaa
section
variable {D K : Nat} {B : List Int}
theorem Sim.stop {a s0 st r E s1} (h : r.ok = false) (hn : ∃ w s N, a ≤ w ∧ w ≤ B.length ∧ Goes D K B a s0 w s N r.evs ∧ Halt D K B w s ∧ ∀ n : Note, (n.1 ≤ w ∨ w = B.length) → (n ∈ N ++ hnts D K B w s ↔ n ∈ r.notes ∨ Kn K st a B.length n)) : Sim D K B a s0 st r E s1 :=
  ⟨fun h' => (by rw [h] at h'; cases h'), fun _ => hn⟩
theorem pairs_sim (lim : Nat) (ik iv : Nat → Sc) (d : Nat) (hik : ∀ a st, lim ≤ a → a ≤ B.length → st.length = d → (∃ f st', st = f :: st' ∧ f.waits = true ∧ f.cur = []) → ItemSim D K B a st true (ik a))
    (hiv : ∀ a st, lim ≤ a → a ≤ B.length → st.length = d → (∀ f st', st = f :: st' → f.waits = false) → ItemSim D K B a st false (iv a)) (n : Nat) :
    ∀ (a : Nat) (fst : Bool) (last : List Int) (f0 : Fr) (st : List Fr), f0.kind = 5 → f0.half = false → f0.cur = [] → f0.left = (n + 1 : Nat) → f0.any = !fst → (fst = false → f0.last = last) → lim ≤ a → a ≤ B.length → st.length + 1 = d →
      Sim D K B a (begins (f0 :: st)) st (scPairs B ik iv (n + 1) fst last a) (scPairs B ik iv (n + 1) fst last a).evs ⟨st.map (Fr.feeds (slice B a (scPairs B ik iv (n + 1) fst last a).to)), .ended⟩ := by
  induction n with
  | zero | succ n ih =>
    intro a fst last f0 st hk hh hc hl hany hlast hlim ha hd
    have hw : f0.waits = true := by unfold Fr.waits; simp [hk, hh]
    obtain ⟨E, hE, hS, hK⟩ := hik a (f0 :: st) hlim ha (by simpa using hd) ⟨f0, st, rfl, hw, hc⟩
    have hm := fun m => show scPairs B ik iv (m + 1) fst last a = scPair B ik iv (scPairs B ik iv m false) fst last a from rfl
    rw [hm]
    clear hm
    unfold scPair
    dsimp only
    cases hok : (ik a).ok with
    | false =>
      rw [if_neg (by decide)]
      refine Sim.stop hok ?_
      rw [hok, if_neg (by decide)] at hK
      obtain ⟨w, s, N, h1, h2, g, hh, hN⟩ := hS.no hok
      exact ⟨w, s, N, h1, h2, g, hh, fun n hn => by rw [hN n hn]; exact kn_key hc (fun hlt he => he ▸ hK rfl hlt)⟩
    | true =>
      rw [if_pos rfl]
      rw [hok, if_pos rfl] at hK
      obtain ⟨h1, h2, N, g, hN⟩ := hS.ok hok
      have hev := hE hok
      have hfc : f0.feeds (slice B a (ik a).to) = { f0 with cur := slice B a (ik a).to } := by
        unfold Fr.feeds
        rw [if_pos hw, hc]
        rfl
      have hnn : (if !fst && !ahead last (slice B a (ik a).to) then [(((ik a).to - 1, 7) : Note)] else []) = onotes (ik a).to (f0.feeds (slice B a (ik a).to)) := by
        rw [hfc]
        unfold onotes
        dsimp only
        rw [hany]
        cases fst with
        | true => rfl
        | false => rw [hlast rfl]
      rw [hnn]
      have g2 : Goes D K B (ik a).to ⟨(f0 :: st).map (Fr.feeds (slice B a (ik a).to)), .ended⟩ (ik a).to (begins ((f0.feeds (slice B a (ik a).to)).keyed :: st.map (Fr.feeds (slice B a (ik a).to)))) (onotes (ik a).to (f0.feeds (slice B a (ik a).to))) [endEv true ((f0 :: st).length + 1) (ik a).to] := by
        refine Goes.end1 rfl ?_
        show estep _ (f0.feeds _ :: st.map _) = _
        rw [estep_cons, Fr.waits_feeds, hw, if_pos rfl, List.length_map]
        rfl
      have g3 := g.trans g2
      rw [← hev] at g3
      have hN3 : ∀ n, n ∈ N ++ onotes (ik a).to (f0.feeds (slice B a (ik a).to)) ↔ n ∈ (ik a).notes ++ onotes (ik a).to (f0.feeds (slice B a (ik a).to)) ∨ Kn K st a (ik a).to n := by
        intro n
        rw [List.mem_append, List.mem_append, hN, kn_key hc (fun hlt he => he ▸ hK rfl hlt)]
        constructor
        · rintro ((h | h) | h)
          · exact .inl (.inl h)
          · exact .inr h
          · exact .inl (.inr h)
        · rintro ((h | h) | h)
          · exact .inl (.inl h)
          · exact .inr h
          · exact .inl (.inr h)
      generalize hf1 : (f0.feeds (slice B a (ik a).to)).keyed = f1 at *
      generalize hst1 : st.map (Fr.feeds (slice B a (ik a).to)) = st1 at *
      have hw1 : f1.waits = false := by rw [← hf1]; unfold Fr.keyed Fr.waits; simp
      have hl1 : f1.left = f0.left := by rw [← hf1, hfc]; rfl
      obtain ⟨E1, hE1, hS1, _⟩ := hiv (ik a).to (f1 :: st1) (by omega) h2 (by rw [← hst1]; simpa using hd) (fun f st' e => by injection e with e1 e2; rw [← e1]; exact hw1)
      generalize iv (ik a).to = v at *
      cases hvk : v.ok with
      | false =>
        rw [if_neg (by decide)]
        have hv : Sim D K B (ik a).to (begins (f1 :: st1)) (st.map (Fr.feeds (slice B a (ik a).to))) ⟨v.notes, v.evs, v.to, false⟩ [] (begins []) := by
          refine Sim.stop rfl ?_
          obtain ⟨w, s, N, k1, k2, g, hh, hN⟩ := hS1.no hvk
          rw [hst1]
          exact ⟨w, s, N, k1, k2, g, hh, fun n hn => by rw [hN n hn, kn_drop hw1]⟩
        have := Sim.after (P1 := (ik a).notes ++ onotes (ik a).to (f0.feeds (slice B a (ik a).to))) h1 h2 g3 hN3 hv
        rw [List.append_assoc] at this
        exact Sim.stop rfl (this.no rfl)
      | true =>
        rw [if_pos rfl]
        obtain ⟨k1, k2, N1, g1, hN1⟩ := hS1.ok hvk
        have hev1 := hE1 hvk
        first
        | -- the last pair
          have hl2 : f1.left = 1 := by rw [hl1, hl]; rfl
          have g4 : Goes D K B v.to ⟨(f1 :: st1).map (Fr.feeds (slice B (ik a).to v.to)), .ended⟩ v.to ⟨st1.map (Fr.feeds (slice B (ik a).to v.to)), .ended⟩ [] [endEv false ((f1 :: st1).length + 1) v.to] := by
            refine Goes.end1 rfl ?_
            show estep _ (f1.feeds _ :: st1.map _) = _
            rw [Fr.feeds_still hw1, estep_cons, hw1, if_neg (by decide), if_pos hl2, List.length_map]
            rfl
          have g5 := g1.trans g4
          rw [← hev1, List.append_nil] at g5
          have A := Sim.after (P1 := v.notes) (st := st1) (r := ⟨[], [], v.to, true⟩) k1 k2 g5 (fun n => by rw [hN1, kn_drop hw1]) (Sim.refl k2)
          subst hst1
          have := Sim.after (P1 := (ik a).notes ++ onotes (ik a).to (f0.feeds (slice B a (ik a).to))) h1 h2 g3 hN3 A
          rw [List.append_assoc] at this
          show Sim D K B a _ st ⟨(ik a).notes ++ (onotes _ _ ++ (v.notes ++ [])), (ik a).evs ++ (v.evs ++ []), v.to, true⟩ ((ik a).evs ++ (v.evs ++ [])) ⟨st.map (Fr.feeds (slice B a v.to)), .ended⟩
          rw [map_feeds, slice_add h1 k1] at this
          exact this
        | have hl2 : ¬ f1.left = 1 := by rw [hl1, hl]; omega
          have g4 : Goes D K B v.to ⟨(f1 :: st1).map (Fr.feeds (slice B (ik a).to v.to)), .ended⟩ v.to (begins (f1.less :: st1.map (Fr.feeds (slice B (ik a).to v.to)))) [] [endEv false ((f1 :: st1).length + 1) v.to] := by
            refine Goes.end1 rfl ?_
            show estep _ (f1.feeds _ :: st1.map _) = _
            rw [Fr.feeds_still hw1, estep_cons, hw1, if_neg (by decide), if_neg hl2, List.length_map]
            rfl
          have g5 := g1.trans g4
          rw [← hev1, List.append_nil] at g5
          have hI := ih v.to false (slice B a (ik a).to) f1.less (st1.map (Fr.feeds (slice B (ik a).to v.to))) (by rw [← hf1, hfc]; exact hk) rfl (by rw [← hf1]; rfl) (by show f1.left - 1 = _; rw [hl1, hl]; omega) (by rw [← hf1]; rfl) (fun _ => by rw [← hf1, hfc]; rfl) (by omega) k2 (by rw [List.length_map, ← hst1, List.length_map]; exact hd)
          have A := Sim.after (P1 := v.notes) (st := st1) k1 k2 g5 (fun n => by rw [hN1, kn_drop hw1]) hI
          subst hst1
          have := Sim.after (P1 := (ik a).notes ++ onotes (ik a).to (f0.feeds (slice B a (ik a).to))) h1 h2 g3 hN3 A
          rw [List.append_assoc] at this
          refine ⟨fun h' => ?_, this.no⟩
          obtain ⟨q1, q2, N', g', hN'⟩ := this.ok h'
          refine ⟨q1, q2, N', ?_, hN'⟩
          rw [map_feeds, map_feeds, slice_add k1 (hI.ok h').1, slice_add h1 (Nat.le_trans k1 (hI.ok h').1)] at g'
          exact g'
end
end Go.Proofs.Ytchhbcmkhbfpoaa
