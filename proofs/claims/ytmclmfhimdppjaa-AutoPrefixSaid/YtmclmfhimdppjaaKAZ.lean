/- Package auto: the machine goes through a head, and through a text, as the scan does. -/
import Derived.Test.YtmclmfhimdppjaaKAY
namespace Go.Proofs.Ytmclmfhimdppjaa

theorem HSt.opn {L : List Int} {k : Nat} {q : HQ} (h : HSt L k q) : q.opn = false ↔ k = 0 := by
  rcases h with ⟨h0, rfl⟩ | ⟨h1, _, _, _, _, rfl⟩
  · simp [h0, hq0]
  · simp; omega
theorem mem_ite {α} {P : Prop} [Decidable P] {x n : α} : n ∈ (if P then [x] else []) ↔ P ∧ n = x := by split <;> simp_all
theorem mem_hnotes {D K i : Nat} {st : List Fr} {q : HQ} {c : Int} {n : Note} : n ∈ hnotes D K i st q c ↔ (herr q c = 2 ∧ n = (i, 2)) ∨ (q.opn = false ∧ D < st.length + 1 ∧ n = (i, 3)) ∨ Kn K st i (i + 1) n ∨ (herr q c = 5 ∧ n = (i, 5)) := by
  unfold hnotes
  rw [List.mem_append, List.mem_append, List.mem_append, kn_one, mem_ite, mem_ite, mem_ite, and_assoc]
/-- An item stands too deep. -/
def Dn (D : Nat) (B : List Int) (st : List Fr) (a : Nat) (n : Note) : Prop := D < st.length + 1 ∧ a < B.length ∧ n = (a, 3)
def HeadRun (D K : Nat) (B : List Int) (a k : Nat) (q : HQ) (st : List Fr) : Prop :=
  ((hread (B.drop a)).e = 9 ∧ ∃ q' N, Goes D K B (a + k) ⟨st, .head q⟩ B.length ⟨st.map (Fr.feeds (slice B (a + k) B.length)), .head q'⟩ N [] ∧ ∀ n, n ∈ N ↔ (k = 0 ∧ Dn D B st a n) ∨ Kn K st (a + k) B.length n) ∨
  ((hread (B.drop a)).many = 0 ∧ ((hread (B.drop a)).e = 2 ∨ (hread (B.drop a)).e = 5) ∧ ∃ (p : Nat) (q' : HQ) (N : List Note), (hread (B.drop a)).place = p ∧ k ≤ p ∧ a + p < B.length ∧
    Goes D K B (a + k) ⟨st, .head q⟩ (a + p) ⟨st.map (Fr.feeds (slice B (a + k) (a + p))), .head q'⟩ N [] ∧
    (bstep D K (a + p) ⟨st.map (Fr.feeds (slice B (a + k) (a + p))), .head q'⟩ (B.getD (a + p) 0)).next = none ∧ (bstep D K (a + p) ⟨st.map (Fr.feeds (slice B (a + k) (a + p))), .head q'⟩ (B.getD (a + p) 0)).notes ≠ [] ∧
    ∀ n, n ∈ N ++ (bstep D K (a + p) ⟨st.map (Fr.feeds (slice B (a + k) (a + p))), .head q'⟩ (B.getD (a + p) 0)).notes ↔ (k = 0 ∧ Dn D B st a n) ∨ n = (a + p, (hread (B.drop a)).e) ∨ Kn K st (a + k) (a + p + 1) n) ∨
  (∃ m : Nat, (hread (B.drop a)).many = m ∧ k < m ∧ a + m ≤ B.length ∧ ((hread (B.drop a)).e = 0 ∨ (hread (B.drop a)).e = 5 ∧ (hread (B.drop a)).place = (m : Int) - 1) ∧ ∃ N,
    Goes D K B (a + k) ⟨st, .head q⟩ (a + m) (enter (st.map (Fr.feeds (slice B (a + k) (a + m)))) (hread (B.drop a)).major (hread (B.drop a)).arg) N
      [⟨1, (hread (B.drop a)).major, (hread (B.drop a)).width, (hread (B.drop a)).arg, 0, st.length + 1, a + m - 1⟩] ∧
    ∀ n, n ∈ N ↔ (k = 0 ∧ Dn D B st a n) ∨ ((hread (B.drop a)).e ≠ 0 ∧ n = (a + m - 1, (hread (B.drop a)).e)) ∨ Kn K st (a + k) (a + m) n)
theorem head_run (D K : Nat) (B : List Int) (a : Nat) (m : Nat) : ∀ (k : Nat) (q : HQ) (st : List Fr), (B.drop a).length - k = m → k ≤ (B.drop a).length → a ≤ B.length → HSt (B.drop a) k q → HeadRun D K B a k q st := by
  induction m with
  | zero =>
    intro k q st hm hk ha h
    have hl : (B.drop a).length = B.length - a := List.length_drop
    obtain rfl : k = (B.drop a).length := by omega
    have e : a + (B.drop a).length = B.length := by omega
    refine .inl ⟨by rw [h.last]; rfl, q, [], ?_, ?_⟩
    · rw [e, slice_nil, map_feeds_nil]; exact .refl _ _
    · intro n
      rw [e]
      constructor
      · intro hn; cases hn
      · rintro (⟨h0, _, h1, _⟩ | h)
        · omega
        · exact (Kn.none h).elim
  | succ m ih =>
    intro k q st hm hk ha h
    have hl : (B.drop a).length = B.length - a := List.length_drop
    have hc : (B.drop a).getD k 0 = B.getD (a + k) 0 := getD_drop B a k
    have hs := h.step2 (k := k) (by omega)
    rw [hc] at hs
    have hi : a + k < B.length := by omega
    have hmn : ∀ n, n ∈ hnotes D K (a + k) st q (B.getD (a + k) 0) ↔ (herr q (B.getD (a + k) 0) = 2 ∧ n = (a + k, 2)) ∨ (k = 0 ∧ Dn D B st a n) ∨ Kn K st (a + k) (a + k + 1) n ∨ (herr q (B.getD (a + k) 0) = 5 ∧ n = (a + k, 5)) := by
      intro n
      rw [mem_hnotes, h.opn]
      unfold Dn
      constructor
      · rintro (h | ⟨h0, h1, h2⟩ | h | h)
        · exact .inl h
        · exact .inr (.inl ⟨h0, h1, by omega, by rw [h2, h0]; rfl⟩)
        · exact .inr (.inr (.inl h))
        · exact .inr (.inr (.inr h))
      · rintro (h | ⟨h0, h1, _, h2⟩ | h | h)
        · exact .inl h
        · exact .inr (.inl ⟨h0, h1, by rw [h2, h0]; rfl⟩)
        · exact .inr (.inr (.inl h))
        · exact .inr (.inr (.inr h))
    have hb : bstep D K (a + k) ⟨st, .head q⟩ (B.getD (a + k) 0) = ⟨if hdone q (B.getD (a + k) 0) then some (enter (st.map (Fr.feeds [B.getD (a + k) 0])) (hstep q (B.getD (a + k) 0)).major (hstep q (B.getD (a + k) 0)).arg) else if herr q (B.getD (a + k) 0) = 0 then some ⟨st.map (Fr.feeds [B.getD (a + k) 0]), .head (hstep q (B.getD (a + k) 0))⟩ else none,
      hnotes D K (a + k) st q (B.getD (a + k) 0), if hdone q (B.getD (a + k) 0) then [⟨1, (hstep q (B.getD (a + k) 0)).major, (hstep q (B.getD (a + k) 0)).width, (hstep q (B.getD (a + k) 0)).arg, 0, st.length + 1, a + k⟩] else []⟩ := rfl
    have hsl : slice B (a + k) (a + k + 1) = [B.getD (a + k) 0] := by rw [slice_cons (by omega) (by omega), slice_nil]
    generalize hd : hdone q (B.getD (a + k) 0) = d at *
    generalize he : herr q (B.getD (a + k) 0) = e at *
    generalize hq' : hstep q (B.getD (a + k) 0) = q' at *
    generalize hnotes D K (a + k) st q (B.getD (a + k) 0) = N0 at *
    cases hs with
    | bad e q' he2 hr =>
      refine .inr (.inl ?_)
      rw [hr]
      refine ⟨rfl, he2, k, q, [], rfl, Nat.le_refl _, hi, ?_, ?_, ?_, ?_⟩
      · rw [slice_nil, map_feeds_nil]; exact .refl _ _
      · rw [slice_nil, map_feeds_nil, hb]
        dsimp only
        rw [if_neg (by decide), if_neg (by omega)]
      · rw [slice_nil, map_feeds_nil, hb]
        dsimp only
        rcases he2 with rfl | rfl
        · exact List.ne_nil_of_mem ((hmn _).2 (.inl ⟨rfl, rfl⟩))
        · exact List.ne_nil_of_mem ((hmn _).2 (.inr (.inr (.inr ⟨rfl, rfl⟩))))
      · intro n
        rw [slice_nil, map_feeds_nil, hb, List.nil_append]
        dsimp only [hnone]
        rw [hmn]
        rcases he2 with rfl | rfl
        · constructor
          · rintro (⟨_, h⟩ | h | h | ⟨h, _⟩)
            · exact .inr (.inl h)
            · exact .inl h
            · exact .inr (.inr h)
            · exact absurd h (by decide)
          · rintro (h | h | h)
            · exact .inr (.inl h)
            · exact .inl ⟨rfl, h⟩
            · exact .inr (.inr (.inl h))
        · constructor
          · rintro (⟨h, _⟩ | h | h | ⟨_, h⟩)
            · exact absurd h (by decide)
            · exact .inl h
            · exact .inr (.inr h)
            · exact .inr (.inl h)
          · rintro (h | h | h)
            · exact .inr (.inl h)
            · exact .inr (.inr (.inr ⟨rfl, h⟩))
            · exact .inr (.inr (.inl h))
    | whole e q' he2 hr =>
      refine .inr (.inr ⟨k + 1, by rw [hr]; rfl, Nat.lt_succ_self _, by omega, ?_, N0, ?_, ?_⟩)
      · rw [hr]
        rcases he2 with rfl | rfl
        · exact .inl rfl
        · exact .inr ⟨rfl, by simp⟩
      · rw [hr, ← Nat.add_assoc, hsl]
        refine Goes.one hi rfl ?_ ?_ ?_
        · rw [hb]; rfl
        · rw [hb]
        · rw [hb]; rfl
      · intro n
        rw [hmn, hr, ← Nat.add_assoc]
        dsimp only
        rw [show a + k + 1 - 1 = a + k by omega]
        rcases he2 with rfl | rfl
        · constructor
          · rintro (⟨h, _⟩ | h | h | ⟨h, _⟩)
            · exact absurd h (by decide)
            · exact .inl h
            · exact .inr (.inr h)
            · exact absurd h (by decide)
          · rintro (h | ⟨h, _⟩ | h)
            · exact .inr (.inl h)
            · exact absurd rfl h
            · exact .inr (.inr (.inl h))
        · constructor
          · rintro (⟨h, _⟩ | h | h | ⟨_, h⟩)
            · exact absurd h (by decide)
            · exact .inl h
            · exact .inr (.inr h)
            · exact .inr (.inl ⟨by decide, h⟩)
          · rintro (h | ⟨_, h⟩ | h)
            · exact .inr (.inl h)
            · exact .inr (.inr (.inr ⟨rfl, h⟩))
            · exact .inr (.inr (.inl h))
    | more q' hq =>
      have hone : Goes D K B (a + k) ⟨st, .head q⟩ (a + k + 1) ⟨st.map (Fr.feeds [B.getD (a + k) 0]), .head q'⟩ N0 [] := Goes.one hi rfl (by rw [hb]; rfl) (by rw [hb]) (by rw [hb]; rfl)
      have hN0 : ∀ n, n ∈ N0 ↔ (k = 0 ∧ Dn D B st a n) ∨ Kn K st (a + k) (a + k + 1) n := by
        intro n
        rw [hmn]
        constructor
        · rintro (⟨h, _⟩ | h | h | ⟨h, _⟩)
          · exact absurd h (by decide)
          · exact .inl h
          · exact .inr h
          · exact absurd h (by decide)
        · rintro (h | h)
          · exact .inr (.inl h)
          · exact .inr (.inr (.inl h))
      have hlen : (st.map (Fr.feeds [B.getD (a + k) 0])).length = st.length := List.length_map _
      have hk1 : ∀ {P : Prop}, ¬ (k + 1 = 0 ∧ P) := fun h => by omega
      have HI := ih (k + 1) q' (st.map (Fr.feeds [B.getD (a + k) 0])) (by omega) (by omega) ha hq
      unfold HeadRun at HI
      rw [← Nat.add_assoc, hlen, ← hsl] at HI
      simp only [map_feeds] at HI
      rcases HI with ⟨h9, q2, N, hg, hN⟩ | ⟨h0, h25, p, q2, N, hp, hkp, hap, hg, hnx, hne, hN⟩ | ⟨m', hm', hkm, ham, he2, N, hg, hN⟩
      · refine .inl ⟨h9, q2, N0 ++ N, ?_, ?_⟩
        · rw [slice_add (by omega) (by omega)] at hg
          rw [hsl] at hg
          exact hone.trans hg
        · intro n
          rw [List.mem_append, hN0, hN, ← kn_add (B := B) (show a + k ≤ a + k + 1 by omega) (show a + k + 1 ≤ B.length by omega) (by omega)]
          simp only [hk1, false_or, or_assoc]
      · rw [slice_add (by omega) (by omega)] at hg hnx hne hN
        refine .inr (.inl ⟨h0, h25, p, q2, N0 ++ N, hp, by omega, hap, ?_, hnx, hne, ?_⟩)
        · rw [hsl] at hg
          exact hone.trans hg
        · intro n
          rw [List.append_assoc, List.mem_append, hN0, hN, ← kn_add (B := B) (show a + k ≤ a + k + 1 by omega) (show a + k + 1 ≤ a + p + 1 by omega) (show a + k + 1 ≤ B.length by omega)]
          simp only [hk1, false_or, or_assoc]
          constructor
          · rintro (h | h | h | h)
            · exact .inl h
            · exact .inr (.inr (.inl h))
            · exact .inr (.inl h)
            · exact .inr (.inr (.inr h))
          · rintro (h | h | h | h)
            · exact .inl h
            · exact .inr (.inr (.inl h))
            · exact .inr (.inl h)
            · exact .inr (.inr (.inr h))
      · rw [slice_add (by omega) (by omega)] at hg
        refine .inr (.inr ⟨m', hm', by omega, ham, he2, N0 ++ N, ?_, ?_⟩)
        · rw [hsl] at hg
          exact hone.trans hg
        · intro n
          rw [List.mem_append, hN0, hN, ← kn_add (B := B) (show a + k ≤ a + k + 1 by omega) (show a + k + 1 ≤ a + m' by omega) (show a + k + 1 ≤ B.length by omega)]
          simp only [hk1, false_or, or_assoc]
          constructor
          · rintro (h | h | h | h)
            · exact .inl h
            · exact .inr (.inr (.inl h))
            · exact .inr (.inl h)
            · exact .inr (.inr (.inr h))
          · rintro (h | h | h | h)
            · exact .inl h
            · exact .inr (.inr (.inl h))
            · exact .inr (.inl h)
            · exact .inr (.inr (.inr h))

theorem unotes_cons (wh : Bool) (u : UQ) (c : Int) (r : List Int) (i : Nat) : unotes wh u (c :: r) i = (if !u.wr && ((ustep u c).wr || (wh && r.isEmpty && !udone (ustep u c))) then [(i, 6)] else []) ++ unotes wh (ustep u c) r (i + 1) := rfl
/-- A text of n bytes, all of which there are (wh), or as many of them as there are. -/
theorem text_run (D K : Nat) (B : List Int) (t : Bool) (wh : Bool) (m : Nat) : ∀ (i : Nat) (n : Int) (u : UQ) (st : List Fr), i + m ≤ B.length → (if wh then n = m else i + m = B.length ∧ (m : Int) < n) → 0 < n → (wh = true → 0 < m) →
    ∃ N s', Goes D K B i ⟨st, .text n t u⟩ (i + m) s' N (bevs (st.length + 1) (slice B i (i + m)) i) ∧
      (if wh then s' = ⟨st.map (Fr.feeds (slice B i (i + m))), .ended⟩ else ∃ n' u', s' = ⟨st.map (Fr.feeds (slice B i (i + m))), .text n' t u'⟩) ∧
      ∀ x, x ∈ N ↔ (t = true ∧ x ∈ unotes wh u (slice B i (i + m)) i) ∨ Kn K st i (i + m) x := by
  induction m with
  | zero =>
    intro i n u st hi hn h0 hw
    have hwh : wh = false := by cases wh; rfl; exact absurd (hw rfl) (by omega)
    subst hwh
    refine ⟨[], _, by rw [Nat.add_zero, slice_nil]; exact .refl _ _, ?_, ?_⟩
    · rw [if_neg (by decide)]
      exact ⟨n, u, by rw [Nat.add_zero, slice_nil, map_feeds_nil]⟩
    · intro x
      rw [Nat.add_zero, slice_nil]
      constructor
      · intro h; cases h
      · rintro (⟨_, h⟩ | h)
        · cases h
        · exact (Kn.none h).elim
  | succ m ih =>
    intro i n u st hi hn h0 hw
    have hib : i < B.length := by omega
    have hsl : slice B i (i + 1) = [B.getD i 0] := by rw [slice_cons (by omega) (by omega), slice_nil]
    have hsc : slice B i (i + (m + 1)) = B.getD i 0 :: slice B (i + 1) (i + 1 + m) := by rw [slice_cons (by omega) hi, show i + (m + 1) = i + 1 + m by omega]
    have hb : bstep D K i ⟨st, .text n t u⟩ (B.getD i 0) = ⟨some (if n = 1 then ⟨st.map (Fr.feeds [B.getD i 0]), .ended⟩ else ⟨st.map (Fr.feeds [B.getD i 0]), .text (n - 1) t (if t then ustep u (B.getD i 0) else u)⟩), tnotes K i st n t u (B.getD i 0), [⟨2, 0, 0, 0, B.getD i 0, st.length + 1, i⟩]⟩ := rfl
    have hlen : (st.map (Fr.feeds [B.getD i 0])).length = st.length := List.length_map _
    generalize hN0 : tnotes K i st n t u (B.getD i 0) = N0 at *
    have hm : (slice B (i + 1) (i + 1 + m)).isEmpty = decide (m = 0) := by
      have := length_slice (B := B) (a := i + 1) (b := i + 1 + m) (by omega)
      cases hx : slice B (i + 1) (i + 1 + m) with
      | nil => rw [hx] at this; simp at this; simp; omega
      | cons y ys => rw [hx] at this; simp at this; simp; omega
    have hmem : ∀ x, x ∈ N0 ↔ (t = true ∧ x ∈ (if !u.wr && ((ustep u (B.getD i 0)).wr || (wh && (slice B (i + 1) (i + 1 + m)).isEmpty && !udone (ustep u (B.getD i 0)))) then [((i, 6) : Note)] else [])) ∨ Kn K st i (i + 1) x := by
      intro x
      rw [← hN0]
      unfold tnotes
      rw [List.mem_append, kn_one, or_comm, hm]
      have hone : (n == 1) = (wh && decide (m = 0)) := by
        cases wh
        · simp at hn ⊢; omega
        · simp at hn ⊢
          rw [hn]
          by_cases h : m = 0
          · simp [h]
          · simp [h]; omega
      rw [hone]
      cases t <;> simp
    by_cases hn1 : n = 1
    · have hwm : wh = true ∧ m = 0 := by
        cases wh
        · simp at hn; omega
        · simp at hn; exact ⟨rfl, by omega⟩
      obtain ⟨rfl, rfl⟩ := hwm
      rw [if_pos hn1] at hb
      refine ⟨N0, _, ?_, by rw [if_pos rfl], ?_⟩
      · rw [hsc, Nat.zero_add]
        refine Goes.one hib rfl ?_ (by rw [hb]) (by rw [hb, slice_nil]; rfl)
        rw [hb, Nat.add_zero, slice_nil]
      · intro x
        rw [hmem, hsc]
        unfold unotes
        rw [Nat.add_zero, slice_nil]
        unfold unotes
        rw [List.append_nil]
    · rw [if_neg hn1] at hb
      have hwm : wh = true → 0 < m := by
        intro hw; subst hw; simp at hn; omega
      obtain ⟨N, s', hg, hs', hN⟩ := ih (i + 1) (n - 1) (if t then ustep u (B.getD i 0) else u) (st.map (Fr.feeds [B.getD i 0])) (by omega) (by cases wh <;> simp at hn ⊢ <;> omega) (by omega) hwm
      rw [hlen] at hg
      refine ⟨N0 ++ N, s', ?_, ?_, ?_⟩
      · have := Goes.byte (D := D) (K := K) (s := ⟨st, .text n t u⟩) hib (by rw [hb]) hg
        rw [hb] at this
        rw [hsc, show i + (m + 1) = i + 1 + m by omega]
        exact this
      · rw [← hsl, map_feeds, slice_add (by omega) (by omega), show i + 1 + m = i + (m + 1) by omega] at hs'
        exact hs'
      · intro x
        rw [List.mem_append, hmem, hN, hsc, unotes_cons]
        rw [show i + (m + 1) = i + 1 + m by omega, ← kn_add (B := B) (a := i) (b := i + 1) (c := i + 1 + m) (by omega) (by omega) (by omega), hsl]
        cases t
        · simp
        · simp only [List.mem_append, true_and, if_true]
          constructor
          · rintro ((h | h) | h | h)
            · exact .inl (.inl h)
            · exact .inr (.inl h)
            · exact .inl (.inr h)
            · exact .inr (.inr h)
          · rintro ((h | h) | h | h)
            · exact .inl (.inl h)
            · exact .inr (.inl h)
            · exact .inl (.inr h)
            · exact .inr (.inr h)
end Go.Proofs.Ytmclmfhimdppjaa
