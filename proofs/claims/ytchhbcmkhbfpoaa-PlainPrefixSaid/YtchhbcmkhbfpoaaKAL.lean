/- Package auto: the machine goes through a head and through a text as the scan does. -/
import Derived.Test.YtchhbcmkhbfpoaaKAK
namespace Go.Proofs.Ytchhbcmkhbfpoaa

theorem slice_nil (B : List Int) (a : Nat) : slice B a a = [] := by unfold slice; rw [Nat.sub_self]; rfl
theorem slice_cons {B : List Int} {a b : Nat} (h : a < b) (hb : b ≤ B.length) : slice B a b = B.getD a 0 :: slice B (a + 1) b := by
  have e : B.drop a = B.getD a 0 :: B.drop (a + 1) := by
    rw [List.drop_eq_getElem_cons (by omega), List.getD_eq_getElem?_getD, List.getElem?_eq_getElem (by omega)]
    rfl
  unfold slice
  rw [e, show b - a = (b - (a + 1)) + 1 by omega, List.take_succ_cons]
theorem slice_add {B : List Int} {a b c : Nat} (h : a ≤ b) (h' : b ≤ c) : slice B a b ++ slice B b c = slice B a c := by
  unfold slice
  rw [show c - a = (b - a) + (c - b) by omega, List.take_add, List.drop_drop, show a + (b - a) = b by omega]
theorem length_slice {B : List Int} {a b : Nat} (hb : b ≤ B.length) : (slice B a b).length = b - a := by unfold slice; rw [List.length_take, List.length_drop]; omega
theorem Fr.waits_feeds (xs : List Int) (f : Fr) : (f.feeds xs).waits = f.waits := by unfold Fr.feeds; split <;> rfl
theorem Fr.feeds_nil (f : Fr) : f.feeds [] = f := by unfold Fr.feeds; split <;> simp
theorem Fr.feeds_feeds (xs ys : List Int) (f : Fr) : (f.feeds xs).feeds ys = f.feeds (xs ++ ys) := by
  by_cases h : f.waits = true
  · have h1 : ∀ zs, f.feeds zs = { f with cur := f.cur ++ zs } := fun zs => if_pos h
    have h2 : (f.feeds xs).feeds ys = { f.feeds xs with cur := (f.feeds xs).cur ++ ys } := if_pos (by rw [Fr.waits_feeds]; exact h)
    rw [h2, h1, h1, List.append_assoc]
  · have h1 : ∀ zs, f.feeds zs = f := fun zs => if_neg h
    rw [h1, h1, h1]
theorem map_feeds_nil (st : List Fr) : st.map (Fr.feeds []) = st := by
  have : Fr.feeds [] = id := funext fun f => f.feeds_nil
  rw [this, List.map_id]
theorem map_feeds (xs ys : List Int) (st : List Fr) : (st.map (Fr.feeds xs)).map (Fr.feeds ys) = st.map (Fr.feeds (xs ++ ys)) := by
  rw [List.map_map]
  congr 1
  funext f
  exact f.feeds_feeds xs ys

/-- The keys about it are too long there. -/
def Kn (K : Nat) (st : List Fr) (a b : Nat) (n : Note) : Prop := n.2 = 4 ∧ a ≤ n.1 ∧ n.1 < b ∧ ∃ f ∈ st, f.waits = true ∧ f.cur.length + (n.1 - a) = K
theorem Kn.none {K st a n} : ¬ Kn K st a a n := fun h => by have := h.2.1; have := h.2.2.1; omega
theorem kn_add {K : Nat} {st : List Fr} {B : List Int} {a b c : Nat} {n : Note} (h : a ≤ b) (h' : b ≤ c) (hb : b ≤ B.length) : Kn K st a b n ∨ Kn K (st.map (Fr.feeds (slice B a b))) b c n ↔ Kn K st a c n := by
  have hl : (slice B a b).length = b - a := length_slice hb
  constructor
  · rintro (⟨h1, h2, h3, f, hf, hw, he⟩ | ⟨h1, h2, h3, f, hf, hw, he⟩)
    · exact ⟨h1, h2, by omega, f, hf, hw, he⟩
    · obtain ⟨g, hg, rfl⟩ := List.mem_map.1 hf
      rw [Fr.waits_feeds] at hw
      refine ⟨h1, by omega, h3, g, hg, hw, ?_⟩
      unfold Fr.feeds at he
      rw [if_pos hw] at he
      simp only [List.length_append] at he
      omega
  · rintro ⟨h1, h2, h3, f, hf, hw, he⟩
    by_cases hn : n.1 < b
    · exact .inl ⟨h1, h2, hn, f, hf, hw, he⟩
    · refine .inr ⟨h1, by omega, h3, _, List.mem_map.2 ⟨f, hf, rfl⟩, by rw [Fr.waits_feeds]; exact hw, ?_⟩
      unfold Fr.feeds
      rw [if_pos hw]
      simp only [List.length_append]
      omega
theorem kn_one {K : Nat} {st : List Fr} {i : Nat} {n : Note} : n ∈ (if st.any (Fr.full K) then [((i, 4) : Note)] else []) ↔ Kn K st i (i + 1) n := by
  obtain ⟨p, e⟩ := n
  constructor
  · intro h
    split at h
    · next hh =>
      obtain ⟨f, hf, hw⟩ := List.any_eq_true.1 hh
      rw [List.mem_singleton] at h
      obtain ⟨rfl, rfl⟩ := Prod.mk.inj h
      unfold Fr.full at hw
      simp only [Bool.and_eq_true, beq_iff_eq] at hw
      exact ⟨rfl, Nat.le_refl _, Nat.lt_succ_self _, f, hf, hw.1, by simp; exact hw.2⟩
    · cases h
  · rintro ⟨h1, h2, h3, f, hf, hw, he⟩
    simp only at h1 h2 h3 he
    obtain rfl : p = i := by omega
    subst h1
    rw [if_pos (List.any_eq_true.2 ⟨f, hf, by unfold Fr.full; simp only [Bool.and_eq_true, beq_iff_eq]; exact ⟨hw, by omega⟩⟩)]
    exact List.mem_singleton.2 rfl

/-- What one more byte comes to; of a head that ends all that it has. -/
inductive HNext2 (L : List Int) (k : Nat) : Bool → Int → HQ → Prop
  | bad (e : Int) (q' : HQ) (he : e = 2 ∨ e = 5) (h : hread L = hnone k e) : HNext2 L k false e q'
  | whole (e : Int) (q' : HQ) (he : e = 0 ∨ e = 5) (h : hread L = ⟨q'.major, q'.width, q'.arg, k + 1, if e = 0 then -1 else k, e⟩) : HNext2 L k true e q'
  | more (q' : HQ) (h : HSt L (k + 1) q') : HNext2 L k false 0 q'
theorem HSt.step2 {L : List Int} {k : Nat} {q : HQ} (h : HSt L k q) (hk : k < L.length) : HNext2 L k (hdone q (L.getD k 0)) (herr q (L.getD k 0)) (hstep q (L.getD k 0)) := by
  unfold hdone herr hstep
  rcases h with ⟨rfl, rfl⟩ | ⟨h1, hkl, h2, h3, h4, rfl⟩
  · have e0 : hmid hq0 (L.getD 0 0) = hbeg (L.getD 0 0 / 32) (L.getD 0 0 % 32) := rfl
    rw [e0]
    by_cases hi : 28 ≤ L.getD 0 0 % 32
    · have hR := hread_bad hk hi
      have e1 : hbeg (L.getD 0 0 / 32) (L.getD 0 0 % 32) = ⟨L.getD 0 0 / 32, 0, 0, 0, true, hbad (L.getD 0 0 / 32) (L.getD 0 0 % 32)⟩ := by unfold hbeg; rw [if_pos hi]
      have hb := hbad_ne (m := L.getD 0 0 / 32) hi
      rw [e1]
      generalize hbad (L.getD 0 0 / 32) (L.getD 0 0 % 32) = b at *
      have hm : (HQ.mk (L.getD 0 0 / 32) 0 0 0 true b).more := Or.inl (by show b ≠ 0; omega)
      rw [if_pos hm, if_pos hm]
      simp only [hm, decide_true, Bool.not_true]
      exact .bad b _ (by omega) hR
    by_cases hs : L.getD 0 0 % 32 < 24
    · have hR := hread_small hk hs
      have e1 : hbeg (L.getD 0 0 / 32) (L.getD 0 0 % 32) = ⟨L.getD 0 0 / 32, 0, L.getD 0 0 % 32, 0, true, 0⟩ := by unfold hbeg; rw [if_neg hi, if_pos hs]
      rw [e1]
      have hm : ¬ (HQ.mk (L.getD 0 0 / 32) 0 (L.getD 0 0 % 32) 0 true 0).more := fun h => by rcases h with h | h; exact h rfl; exact absurd h (by show ¬ (0 : Int) < 0; decide)
      have hsh : hshort (L.getD 0 0 / 32) 0 (L.getD 0 0 % 32) = true := by unfold hshort; rw [if_neg (by omega), leastW_small hs]; rfl
      rw [if_neg hm, if_neg hm]
      dsimp only
      rw [hsh]
      simp only [hm, decide_false, Bool.not_false, if_true]
      exact .whole 0 _ (.inl rfl) (by rw [hR]; rfl)
    · have e1 : hbeg (L.getD 0 0 / 32) (L.getD 0 0 % 32) = ⟨L.getD 0 0 / 32, hwid (L.getD 0 0 % 32), 0, hwid (L.getD 0 0 % 32), true, 0⟩ := by unfold hbeg; rw [if_neg hi, if_neg hs]
      rw [e1]
      have hw : 1 ≤ hwid (L.getD 0 0 % 32) := by rcases hwid_of _ (by omega : 24 ≤ L.getD 0 0 % 32) (by omega) with ⟨_, h⟩ | ⟨_, h⟩ | ⟨_, h⟩ | ⟨_, h⟩ <;> omega
      have hm : (HQ.mk (L.getD 0 0 / 32) (hwid (L.getD 0 0 % 32)) 0 (hwid (L.getD 0 0 % 32)) true 0).more := Or.inr (by show 0 < hwid _; omega)
      rw [if_pos hm, if_pos hm]
      simp only [hm, decide_true, Bool.not_true]
      refine .more _ (Or.inr ⟨by omega, hk, by omega, by omega, by omega, ?_⟩)
      congr 1
      omega
  · have e0 : hmid ⟨L.getD 0 0 / 32, hwid (L.getD 0 0 % 32), big 18446744073709551616 (pad (L.drop 1) (k - 1)), hwid (L.getD 0 0 % 32) - k + 1, true, 0⟩ (L.getD k 0) =
        ⟨L.getD 0 0 / 32, hwid (L.getD 0 0 % 32), big 18446744073709551616 (pad (L.drop 1) k), hwid (L.getD 0 0 % 32) - k, true, if L.getD 0 0 / 32 = 7 ∧ hwid (L.getD 0 0 % 32) = 1 ∧ big 18446744073709551616 (pad (L.drop 1) k) < 32 then 2 else 0⟩ := by
      have hb : (big 18446744073709551616 (pad (L.drop 1) (k - 1)) * 256 + L.getD k 0) % 18446744073709551616 = big 18446744073709551616 (pad (L.drop 1) k) := by
        have := big_pad 18446744073709551616 (L.drop 1) (k - 1)
        rw [show k - 1 + 1 = k by omega] at this
        rw [this]
        congr 2
        simp only [List.getD_eq_getElem?_getD, List.getElem?_drop]
        rw [show 1 + (k - 1) = k by omega]
      unfold hmid hfollow
      rw [if_neg (by simp), if_pos rfl]
      dsimp only
      rw [hb]
      congr 1
      omega
    rw [e0]
    by_cases hs : L.getD 0 0 / 32 = 7 ∧ hwid (L.getD 0 0 % 32) = 1 ∧ big 18446744073709551616 (pad (L.drop 1) k) < 32
    · rw [if_pos hs]
      have hk1 : k = 1 := by omega
      subst hk1
      have hR := hread_simple (by omega) h2 h3 (by omega) (by unfold harg; rw [hs.2.1]; exact ⟨hs.1, rfl, hs.2.2⟩)
      have hm : (HQ.mk (L.getD 0 0 / 32) (hwid (L.getD 0 0 % 32)) (big 18446744073709551616 (pad (L.drop 1) 1)) (hwid (L.getD 0 0 % 32) - (1 : Nat)) true 2).more := Or.inl (by show (2 : Int) ≠ 0; decide)
      rw [if_pos hm, if_pos hm]
      simp only [hm, decide_true, Bool.not_true]
      exact .bad 2 _ (.inl rfl) hR
    · rw [if_neg hs]
      by_cases hlt : (k : Int) < hwid (L.getD 0 0 % 32)
      · have hm : (HQ.mk (L.getD 0 0 / 32) (hwid (L.getD 0 0 % 32)) (big 18446744073709551616 (pad (L.drop 1) k)) (hwid (L.getD 0 0 % 32) - k) true 0).more := Or.inr (by show 0 < hwid _ - (k : Int); omega)
        rw [if_pos hm, if_pos hm]
        simp only [hm, decide_true, Bool.not_true]
        refine .more _ (Or.inr ⟨by omega, hk, h2, h3, by omega, ?_⟩)
        rw [show k + 1 - 1 = k by omega]
        congr 1
        omega
      · have hkw : (k : Int) = hwid (L.getD 0 0 % 32) := by omega
        have hkn : (hwid (L.getD 0 0 % 32)).toNat = k := by omega
        have hm : ¬ (HQ.mk (L.getD 0 0 / 32) (hwid (L.getD 0 0 % 32)) (big 18446744073709551616 (pad (L.drop 1) k)) (hwid (L.getD 0 0 % 32) - k) true 0).more := fun h => by
          rcases h with h | h
          · exact h rfl
          · exact absurd h (by show ¬ 0 < hwid _ - (k : Int); omega)
        have hR := hread_whole (L := L) (by omega) h2 h3 (by omega) (by unfold harg; rw [hkn]; exact hs)
        unfold harg at hR
        rw [hkn] at hR
        rw [if_neg hm, if_neg hm]
        simp only [hm, decide_false, Bool.not_false]
        cases hb : hshort (L.getD 0 0 / 32) (hwid (L.getD 0 0 % 32)) (big 18446744073709551616 (pad (L.drop 1) k)) with
        | true =>
          unfold hlong at hR
          rw [hb] at hR
          rw [if_pos rfl]
          refine .whole 0 _ (.inl rfl) ?_
          rw [hR, ← hkw]
          simp only [if_true]
          congr 1
          omega
        | false =>
          unfold hlong at hR
          rw [hb] at hR
          rw [if_neg (by decide)]
          refine .whole 5 _ (.inr rfl) ?_
          rw [hR, ← hkw]
          simp only [Bool.false_eq_true, if_false]
          congr 1
          omega
end Go.Proofs.Ytchhbcmkhbfpoaa

/- Package auto: the machine goes through a head, and through a text, as the scan does. -/
namespace Go.Proofs.Ytchhbcmkhbfpoaa

theorem HSt.opn {L : List Int} {k : Nat} {q : HQ} (h : HSt L k q) : q.opn = false ↔ k = 0 := by
  rcases h with ⟨h0, rfl⟩ | ⟨h1, _, _, _, _, rfl⟩
  · simp [h0, hq0]
  · simp; omega
theorem mem_ite {α} {P : Prop} [Decidable P] {x n : α} : n ∈ (if P then [x] else []) ↔ P ∧ n = x := by split <;> simp_all
theorem mem_hnotes {D K i : Nat} {st : List Fr} {q : HQ} {c : Int} {n : Note} : n ∈ hnotes D K i st q c ↔ (herr q c = 2 ∧ n = (i, 2)) ∨ (q.opn = false ∧ D < st.length + 1 ∧ n = (i, 3)) ∨ Kn K st i (i + 1) n ∨ (herr q c = 5 ∧ n = (i, 5)) := by
  unfold hnotes
  rw [List.mem_append, List.mem_append, List.mem_append, kn_one, mem_ite, mem_ite, mem_ite, and_assoc]
/-- An item stands too deep. -/
def Dn (D : Nat) (B : List Int) (st : List Fr) (a : Nat) (n : Note) : Prop := D < st.length + 1 ∧ a < B.length ∧ n = (a, 3)
def HeadRun (D K : Nat) (B : List Int) (a k : Nat) (q : HQ) (st : List Fr) : Prop :=
  ((hread (B.drop a)).e = 9 ∧ ∃ q' N, Goes D K B (a + k) ⟨st, .head q⟩ B.length ⟨st.map (Fr.feeds (slice B (a + k) B.length)), .head q'⟩ N [] ∧ ∀ n, n ∈ N ↔ (k = 0 ∧ Dn D B st a n) ∨ Kn K st (a + k) B.length n) ∨
  ((hread (B.drop a)).many = 0 ∧ ((hread (B.drop a)).e = 2 ∨ (hread (B.drop a)).e = 5) ∧ ∃ (p : Nat) (q' : HQ) (N : List Note), (hread (B.drop a)).place = p ∧ k ≤ p ∧ a + p < B.length ∧
    Goes D K B (a + k) ⟨st, .head q⟩ (a + p) ⟨st.map (Fr.feeds (slice B (a + k) (a + p))), .head q'⟩ N [] ∧
    (bstep D K (a + p) ⟨st.map (Fr.feeds (slice B (a + k) (a + p))), .head q'⟩ (B.getD (a + p) 0)).next = none ∧ (bstep D K (a + p) ⟨st.map (Fr.feeds (slice B (a + k) (a + p))), .head q'⟩ (B.getD (a + p) 0)).notes ≠ [] ∧
    ∀ n, n ∈ N ++ (bstep D K (a + p) ⟨st.map (Fr.feeds (slice B (a + k) (a + p))), .head q'⟩ (B.getD (a + p) 0)).notes ↔ (k = 0 ∧ Dn D B st a n) ∨ n = (a + p, (hread (B.drop a)).e) ∨ Kn K st (a + k) (a + p + 1) n) ∨
  (∃ m : Nat, (hread (B.drop a)).many = m ∧ k < m ∧ a + m ≤ B.length ∧ ((hread (B.drop a)).e = 0 ∨ (hread (B.drop a)).e = 5 ∧ (hread (B.drop a)).place = (m : Int) - 1) ∧ ∃ N,
    Goes D K B (a + k) ⟨st, .head q⟩ (a + m) (enter (st.map (Fr.feeds (slice B (a + k) (a + m)))) (hread (B.drop a)).major (hread (B.drop a)).arg) N
      [⟨1, (hread (B.drop a)).major, (hread (B.drop a)).width, (hread (B.drop a)).arg, 0, st.length + 1, a + m - 1⟩] ∧
    ∀ n, n ∈ N ↔ (k = 0 ∧ Dn D B st a n) ∨ ((hread (B.drop a)).e ≠ 0 ∧ n = (a + m - 1, (hread (B.drop a)).e)) ∨ Kn K st (a + k) (a + m) n)
theorem head_run (D K : Nat) (B : List Int) (a : Nat) (m : Nat) : ∀ (k : Nat) (q : HQ) (st : List Fr), (B.drop a).length - k = m → k ≤ (B.drop a).length → a ≤ B.length → HSt (B.drop a) k q → HeadRun D K B a k q st := by
  induction m with
  | zero =>
    intro k q st hm hk ha h
    have hl : (B.drop a).length = B.length - a := List.length_drop
    obtain rfl : k = (B.drop a).length := by omega
    have e : a + (B.drop a).length = B.length := by omega
    refine .inl ⟨by rw [h.last]; rfl, q, [], ?_, ?_⟩
    · rw [e, slice_nil, map_feeds_nil]; exact .refl _ _
    · intro n
      rw [e]
      constructor
      · intro hn; cases hn
      · rintro (⟨h0, _, h1, _⟩ | h)
        · omega
        · exact (Kn.none h).elim
  | succ m ih =>
    intro k q st hm hk ha h
    have hl : (B.drop a).length = B.length - a := List.length_drop
    have hc : (B.drop a).getD k 0 = B.getD (a + k) 0 := getD_drop B a k
    have hs := h.step2 (k := k) (by omega)
    rw [hc] at hs
    have hi : a + k < B.length := by omega
    have hmn : ∀ n, n ∈ hnotes D K (a + k) st q (B.getD (a + k) 0) ↔ (herr q (B.getD (a + k) 0) = 2 ∧ n = (a + k, 2)) ∨ (k = 0 ∧ Dn D B st a n) ∨ Kn K st (a + k) (a + k + 1) n ∨ (herr q (B.getD (a + k) 0) = 5 ∧ n = (a + k, 5)) := by
      intro n
      rw [mem_hnotes, h.opn]
      unfold Dn
      constructor
      · rintro (h | ⟨h0, h1, h2⟩ | h | h)
        · exact .inl h
        · exact .inr (.inl ⟨h0, h1, by omega, by rw [h2, h0]; rfl⟩)
        · exact .inr (.inr (.inl h))
        · exact .inr (.inr (.inr h))
      · rintro (h | ⟨h0, h1, _, h2⟩ | h | h)
        · exact .inl h
        · exact .inr (.inl ⟨h0, h1, by rw [h2, h0]; rfl⟩)
        · exact .inr (.inr (.inl h))
        · exact .inr (.inr (.inr h))
    have hb : bstep D K (a + k) ⟨st, .head q⟩ (B.getD (a + k) 0) = ⟨if hdone q (B.getD (a + k) 0) then some (enter (st.map (Fr.feeds [B.getD (a + k) 0])) (hstep q (B.getD (a + k) 0)).major (hstep q (B.getD (a + k) 0)).arg) else if herr q (B.getD (a + k) 0) = 0 then some ⟨st.map (Fr.feeds [B.getD (a + k) 0]), .head (hstep q (B.getD (a + k) 0))⟩ else none,
      hnotes D K (a + k) st q (B.getD (a + k) 0), if hdone q (B.getD (a + k) 0) then [⟨1, (hstep q (B.getD (a + k) 0)).major, (hstep q (B.getD (a + k) 0)).width, (hstep q (B.getD (a + k) 0)).arg, 0, st.length + 1, a + k⟩] else []⟩ := rfl
    have hsl : slice B (a + k) (a + k + 1) = [B.getD (a + k) 0] := by rw [slice_cons (by omega) (by omega), slice_nil]
    generalize hd : hdone q (B.getD (a + k) 0) = d at *
    generalize he : herr q (B.getD (a + k) 0) = e at *
    generalize hq' : hstep q (B.getD (a + k) 0) = q' at *
    generalize hnotes D K (a + k) st q (B.getD (a + k) 0) = N0 at *
    cases hs with
    | bad e q' he2 hr =>
      refine .inr (.inl ?_)
      rw [hr]
      refine ⟨rfl, he2, k, q, [], rfl, Nat.le_refl _, hi, ?_, ?_, ?_, ?_⟩
      · rw [slice_nil, map_feeds_nil]; exact .refl _ _
      · rw [slice_nil, map_feeds_nil, hb]
        dsimp only
        rw [if_neg (by decide), if_neg (by omega)]
      · rw [slice_nil, map_feeds_nil, hb]
        dsimp only
        rcases he2 with rfl | rfl
        · exact List.ne_nil_of_mem ((hmn _).2 (.inl ⟨rfl, rfl⟩))
        · exact List.ne_nil_of_mem ((hmn _).2 (.inr (.inr (.inr ⟨rfl, rfl⟩))))
      · intro n
        rw [slice_nil, map_feeds_nil, hb, List.nil_append]
        dsimp only [hnone]
        rw [hmn]
        rcases he2 with rfl | rfl
        · constructor
          · rintro (⟨_, h⟩ | h | h | ⟨h, _⟩)
            · exact .inr (.inl h)
            · exact .inl h
            · exact .inr (.inr h)
            · exact absurd h (by decide)
          · rintro (h | h | h)
            · exact .inr (.inl h)
            · exact .inl ⟨rfl, h⟩
            · exact .inr (.inr (.inl h))
        · constructor
          · rintro (⟨h, _⟩ | h | h | ⟨_, h⟩)
            · exact absurd h (by decide)
            · exact .inl h
            · exact .inr (.inr h)
            · exact .inr (.inl h)
          · rintro (h | h | h)
            · exact .inr (.inl h)
            · exact .inr (.inr (.inr ⟨rfl, h⟩))
            · exact .inr (.inr (.inl h))
    | whole e q' he2 hr =>
      refine .inr (.inr ⟨k + 1, by rw [hr]; rfl, Nat.lt_succ_self _, by omega, ?_, N0, ?_, ?_⟩)
      · rw [hr]
        rcases he2 with rfl | rfl
        · exact .inl rfl
        · exact .inr ⟨rfl, by simp⟩
      · rw [hr, ← Nat.add_assoc, hsl]
        refine Goes.one hi rfl ?_ ?_ ?_
        · rw [hb]; rfl
        · rw [hb]
        · rw [hb]; rfl
      · intro n
        rw [hmn, hr, ← Nat.add_assoc]
        dsimp only
        rw [show a + k + 1 - 1 = a + k by omega]
        rcases he2 with rfl | rfl
        · constructor
          · rintro (⟨h, _⟩ | h | h | ⟨h, _⟩)
            · exact absurd h (by decide)
            · exact .inl h
            · exact .inr (.inr h)
            · exact absurd h (by decide)
          · rintro (h | ⟨h, _⟩ | h)
            · exact .inr (.inl h)
            · exact absurd rfl h
            · exact .inr (.inr (.inl h))
        · constructor
          · rintro (⟨h, _⟩ | h | h | ⟨_, h⟩)
            · exact absurd h (by decide)
            · exact .inl h
            · exact .inr (.inr h)
            · exact .inr (.inl ⟨by decide, h⟩)
          · rintro (h | ⟨_, h⟩ | h)
            · exact .inr (.inl h)
            · exact .inr (.inr (.inr ⟨rfl, h⟩))
            · exact .inr (.inr (.inl h))
    | more q' hq =>
      have hone : Goes D K B (a + k) ⟨st, .head q⟩ (a + k + 1) ⟨st.map (Fr.feeds [B.getD (a + k) 0]), .head q'⟩ N0 [] := Goes.one hi rfl (by rw [hb]; rfl) (by rw [hb]) (by rw [hb]; rfl)
      have hN0 : ∀ n, n ∈ N0 ↔ (k = 0 ∧ Dn D B st a n) ∨ Kn K st (a + k) (a + k + 1) n := by
        intro n
        rw [hmn]
        constructor
        · rintro (⟨h, _⟩ | h | h | ⟨h, _⟩)
          · exact absurd h (by decide)
          · exact .inl h
          · exact .inr h
          · exact absurd h (by decide)
        · rintro (h | h)
          · exact .inr (.inl h)
          · exact .inr (.inr (.inl h))
      have hlen : (st.map (Fr.feeds [B.getD (a + k) 0])).length = st.length := List.length_map _
      have hk1 : ∀ {P : Prop}, ¬ (k + 1 = 0 ∧ P) := fun h => by omega
      have HI := ih (k + 1) q' (st.map (Fr.feeds [B.getD (a + k) 0])) (by omega) (by omega) ha hq
      unfold HeadRun at HI
      rw [← Nat.add_assoc, hlen, ← hsl] at HI
      simp only [map_feeds] at HI
      rcases HI with ⟨h9, q2, N, hg, hN⟩ | ⟨h0, h25, p, q2, N, hp, hkp, hap, hg, hnx, hne, hN⟩ | ⟨m', hm', hkm, ham, he2, N, hg, hN⟩
      · refine .inl ⟨h9, q2, N0 ++ N, ?_, ?_⟩
        · rw [slice_add (by omega) (by omega)] at hg
          rw [hsl] at hg
          exact hone.trans hg
        · intro n
          rw [List.mem_append, hN0, hN, ← kn_add (B := B) (show a + k ≤ a + k + 1 by omega) (show a + k + 1 ≤ B.length by omega) (by omega)]
          simp only [hk1, false_or, or_assoc]
      · rw [slice_add (by omega) (by omega)] at hg hnx hne hN
        refine .inr (.inl ⟨h0, h25, p, q2, N0 ++ N, hp, by omega, hap, ?_, hnx, hne, ?_⟩)
        · rw [hsl] at hg
          exact hone.trans hg
        · intro n
          rw [List.append_assoc, List.mem_append, hN0, hN, ← kn_add (B := B) (show a + k ≤ a + k + 1 by omega) (show a + k + 1 ≤ a + p + 1 by omega) (show a + k + 1 ≤ B.length by omega)]
          simp only [hk1, false_or, or_assoc]
          constructor
          · rintro (h | h | h | h)
            · exact .inl h
            · exact .inr (.inr (.inl h))
            · exact .inr (.inl h)
            · exact .inr (.inr (.inr h))
          · rintro (h | h | h | h)
            · exact .inl h
            · exact .inr (.inr (.inl h))
            · exact .inr (.inl h)
            · exact .inr (.inr (.inr h))
      · rw [slice_add (by omega) (by omega)] at hg
        refine .inr (.inr ⟨m', hm', by omega, ham, he2, N0 ++ N, ?_, ?_⟩)
        · rw [hsl] at hg
          exact hone.trans hg
        · intro n
          rw [List.mem_append, hN0, hN, ← kn_add (B := B) (show a + k ≤ a + k + 1 by omega) (show a + k + 1 ≤ a + m' by omega) (show a + k + 1 ≤ B.length by omega)]
          simp only [hk1, false_or, or_assoc]
          constructor
          · rintro (h | h | h | h)
            · exact .inl h
            · exact .inr (.inr (.inl h))
            · exact .inr (.inl h)
            · exact .inr (.inr (.inr h))
          · rintro (h | h | h | h)
            · exact .inl h
            · exact .inr (.inr (.inl h))
            · exact .inr (.inl h)
            · exact .inr (.inr (.inr h))

theorem unotes_cons (wh : Bool) (u : UQ) (c : Int) (r : List Int) (i : Nat) : unotes wh u (c :: r) i = (if !u.wr && ((ustep u c).wr || (wh && r.isEmpty && !udone (ustep u c))) then [(i, 6)] else []) ++ unotes wh (ustep u c) r (i + 1) := rfl
/-- A text of n bytes, all of which there are (wh), or as many of them as there are. -/
theorem text_run (D K : Nat) (B : List Int) (t : Bool) (wh : Bool) (m : Nat) : ∀ (i : Nat) (n : Int) (u : UQ) (st : List Fr), i + m ≤ B.length → (if wh then n = m else i + m = B.length ∧ (m : Int) < n) → 0 < n → (wh = true → 0 < m) →
    ∃ N s', Goes D K B i ⟨st, .text n t u⟩ (i + m) s' N (bevs (st.length + 1) (slice B i (i + m)) i) ∧
      (if wh then s' = ⟨st.map (Fr.feeds (slice B i (i + m))), .ended⟩ else ∃ n' u', s' = ⟨st.map (Fr.feeds (slice B i (i + m))), .text n' t u'⟩) ∧
      ∀ x, x ∈ N ↔ (t = true ∧ x ∈ unotes wh u (slice B i (i + m)) i) ∨ Kn K st i (i + m) x := by
  induction m with
  | zero =>
    intro i n u st hi hn h0 hw
    have hwh : wh = false := by cases wh; rfl; exact absurd (hw rfl) (by omega)
    subst hwh
    refine ⟨[], _, by rw [Nat.add_zero, slice_nil]; exact .refl _ _, ?_, ?_⟩
    · rw [if_neg (by decide)]
      exact ⟨n, u, by rw [Nat.add_zero, slice_nil, map_feeds_nil]⟩
    · intro x
      rw [Nat.add_zero, slice_nil]
      constructor
      · intro h; cases h
      · rintro (⟨_, h⟩ | h)
        · cases h
        · exact (Kn.none h).elim
  | succ m ih =>
    intro i n u st hi hn h0 hw
    have hib : i < B.length := by omega
    have hsl : slice B i (i + 1) = [B.getD i 0] := by rw [slice_cons (by omega) (by omega), slice_nil]
    have hsc : slice B i (i + (m + 1)) = B.getD i 0 :: slice B (i + 1) (i + 1 + m) := by rw [slice_cons (by omega) hi, show i + (m + 1) = i + 1 + m by omega]
    have hb : bstep D K i ⟨st, .text n t u⟩ (B.getD i 0) = ⟨some (if n = 1 then ⟨st.map (Fr.feeds [B.getD i 0]), .ended⟩ else ⟨st.map (Fr.feeds [B.getD i 0]), .text (n - 1) t (if t then ustep u (B.getD i 0) else u)⟩), tnotes K i st n t u (B.getD i 0), [⟨2, 0, 0, 0, B.getD i 0, st.length + 1, i⟩]⟩ := rfl
    have hlen : (st.map (Fr.feeds [B.getD i 0])).length = st.length := List.length_map _
    generalize hN0 : tnotes K i st n t u (B.getD i 0) = N0 at *
    have hm : (slice B (i + 1) (i + 1 + m)).isEmpty = decide (m = 0) := by
      have := length_slice (B := B) (a := i + 1) (b := i + 1 + m) (by omega)
      cases hx : slice B (i + 1) (i + 1 + m) with
      | nil => rw [hx] at this; simp at this; simp; omega
      | cons y ys => rw [hx] at this; simp at this; simp; omega
    have hmem : ∀ x, x ∈ N0 ↔ (t = true ∧ x ∈ (if !u.wr && ((ustep u (B.getD i 0)).wr || (wh && (slice B (i + 1) (i + 1 + m)).isEmpty && !udone (ustep u (B.getD i 0)))) then [((i, 6) : Note)] else [])) ∨ Kn K st i (i + 1) x := by
      intro x
      rw [← hN0]
      unfold tnotes
      rw [List.mem_append, kn_one, or_comm, hm]
      have hone : (n == 1) = (wh && decide (m = 0)) := by
        cases wh
        · simp at hn ⊢; omega
        · simp at hn ⊢
          rw [hn]
          by_cases h : m = 0
          · simp [h]
          · simp [h]; omega
      rw [hone]
      cases t <;> simp
    by_cases hn1 : n = 1
    · have hwm : wh = true ∧ m = 0 := by
        cases wh
        · simp at hn; omega
        · simp at hn; exact ⟨rfl, by omega⟩
      obtain ⟨rfl, rfl⟩ := hwm
      rw [if_pos hn1] at hb
      refine ⟨N0, _, ?_, by rw [if_pos rfl], ?_⟩
      · rw [hsc, Nat.zero_add]
        refine Goes.one hib rfl ?_ (by rw [hb]) (by rw [hb, slice_nil]; rfl)
        rw [hb, Nat.add_zero, slice_nil]
      · intro x
        rw [hmem, hsc]
        unfold unotes
        rw [Nat.add_zero, slice_nil]
        unfold unotes
        rw [List.append_nil]
    · rw [if_neg hn1] at hb
      have hwm : wh = true → 0 < m := by
        intro hw; subst hw; simp at hn; omega
      obtain ⟨N, s', hg, hs', hN⟩ := ih (i + 1) (n - 1) (if t then ustep u (B.getD i 0) else u) (st.map (Fr.feeds [B.getD i 0])) (by omega) (by cases wh <;> simp at hn ⊢ <;> omega) (by omega) hwm
      rw [hlen] at hg
      refine ⟨N0 ++ N, s', ?_, ?_, ?_⟩
      · have := Goes.byte (D := D) (K := K) (s := ⟨st, .text n t u⟩) hib (by rw [hb]) hg
        rw [hb] at this
        rw [hsc, show i + (m + 1) = i + 1 + m by omega]
        exact this
      · rw [← hsl, map_feeds, slice_add (by omega) (by omega), show i + 1 + m = i + (m + 1) by omega] at hs'
        exact hs'
      · intro x
        rw [List.mem_append, hmem, hN, hsc, unotes_cons]
        rw [show i + (m + 1) = i + 1 + m by omega, ← kn_add (B := B) (a := i) (b := i + 1) (c := i + 1 + m) (by omega) (by omega) (by omega), hsl]
        cases t
        · simp
        · simp only [List.mem_append, true_and, if_true]
          constructor
          · rintro ((h | h) | h | h)
            · exact .inl (.inl h)
            · exact .inr (.inl h)
            · exact .inl (.inr h)
            · exact .inr (.inr h)
          · rintro ((h | h) | h | h)
            · exact .inl (.inl h)
            · exact .inr (.inl h)
            · exact .inl (.inr h)
            · exact .inr (.inr h)
end Go.Proofs.Ytchhbcmkhbfpoaa
