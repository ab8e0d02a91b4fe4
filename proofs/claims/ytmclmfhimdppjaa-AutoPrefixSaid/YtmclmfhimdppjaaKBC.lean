/- Package auto: what the scan of the whole says of each byte. -/
import Derived.Test.YtmclmfhimdppjaaKBB
namespace Go.Proofs.Ytmclmfhimdppjaa
def AQ.isFin (s : AQ) : Bool := match s.ctl with | .fin => true | _ => false
noncomputable def scTop (B : List Int) (D K : Nat) : Sc := scItem B D K (B.length + 1) 0 1 false
/-- All that the document notes. -/
noncomputable def scNotes (B : List Int) (D K S : Nat) : List Note :=
  (scTop B D K).notes ++ ((if (scTop B D K).ok = true ∧ (scTop B D K).to < B.length then [((scTop B D K).to, 2)] else []) ++ (if S < B.length then [(S, 1)] else []))
section
variable {D K S : Nat} {B : List Int}
theorem top_run : ∃ w s N, w ≤ B.length ∧ FR D K B 0 aq0 w s N (scTop B D K).evs ∧ (w < B.length → (fstep D K w s (B.getD w 0)).next = none ∧ (fstep D K w s (B.getD w 0)).notes ≠ []) ∧
    (∀ n : Note, (n.1 ≤ w ∨ w = B.length) → (n ∈ N ++ (if w < B.length then (fstep D K w s (B.getD w 0)).notes else []) ↔ n ∈ (scTop B D K).notes ++ (if (scTop B D K).ok = true ∧ (scTop B D K).to < B.length then [((scTop B D K).to, 2)] else []))) ∧
    s.isFin = (scTop B D K).ok ∧ ((scTop B D K).ok = true → w = (scTop B D K).to) := by
  obtain ⟨E, hE, hS, _⟩ := item_sim (D := D) (K := K) (B := B) (B.length + 1) 0 [] false (by omega) (Nat.zero_le _) ⟨fun h => (by cases h), fun _ f st' h => (by cases h)⟩
  have e0 : scItem B D K (B.length + 1) 0 (([] : List Fr).length + 1) false = scTop B D K := rfl
  rw [e0] at hE hS
  have hkn : ∀ a b n, ¬ Kn K [] a b n := fun a b n h => by obtain ⟨_, _, _, f, hf, _⟩ := h; cases hf
  cases hok : (scTop B D K).ok with
  | true =>
    obtain ⟨_, h2, N, g, hN⟩ := hS.ok hok
    have g2 : Goes D K B (scTop B D K).to ⟨[], .ended⟩ (scTop B D K).to ⟨[], .fin⟩ [] [endEv false 1 (scTop B D K).to] := Goes.end1 rfl rfl
    have g3 := g.trans g2
    have hev := hE hok
    rw [List.append_nil] at g3
    have g4 := (goes_fr g3 rfl).2 rfl
    rw [show E ++ [endEv false 1 (scTop B D K).to] = (scTop B D K).evs from hev.symm] at g4
    refine ⟨(scTop B D K).to, ⟨[], .fin⟩, N, h2, g4, fun _ => ?_, fun n _ => ?_, rfl, fun _ => rfl⟩
    · have e1 : fstep D K (scTop B D K).to ⟨[], .fin⟩ (B.getD (scTop B D K).to 0) = ⟨none, [((scTop B D K).to, 2)], []⟩ := rfl
      rw [e1]
      exact ⟨rfl, by simp⟩
    · have e1 : fstep D K (scTop B D K).to ⟨[], .fin⟩ (B.getD (scTop B D K).to 0) = ⟨none, [((scTop B D K).to, 2)], []⟩ := rfl
      rw [e1, List.mem_append, List.mem_append, hN]
      simp [hkn]
  | false =>
    obtain ⟨w, s, N, _, h2, g, hh, hN⟩ := hS.no hok
    have hf : s.isEnded = false ∧ s.isFin = false := by
      obtain ⟨st, c⟩ := s
      rcases hh with ⟨_, ⟨q, h⟩ | ⟨n, t, u, h⟩⟩ | ⟨_, ⟨q, h⟩, _⟩ <;> (dsimp only at h; subst h; exact ⟨rfl, rfl⟩)
    refine ⟨w, s, N, h2, (goes_fr g hf.1).2 rfl, fun hw => ?_, fun n hn => ?_, hf.2, fun h => (by cases h)⟩
    · rcases hh with ⟨h, _⟩ | ⟨_, _, h1, h2⟩
      · omega
      · rw [fstep_none h1]; exact ⟨h1, h2⟩
    · have := hN n hn
      unfold hnts at this
      rw [List.mem_append] at this ⊢
      rcases hh with ⟨h, _⟩ | ⟨_, _, h1, h2⟩
      · rw [if_neg (by omega)] at this ⊢
        rw [this]
        simp [hkn]
      · rw [fstep_none h1]
        rw [this]
        simp [hkn]
/-- A place ahead of which nothing is wrong: the machine's state, the events told so far; what the next byte comes to. -/
structure Ahead (D K S : Nat) (B : List Int) (i : Nat) (s : AQ) (E1 E2 : List AEv) : Prop where
  run : FR D K B 0 aq0 i s [] E1
  evs : (scTop B D K).evs = E1 ++ E2
  late : ∀ e ∈ E2, i ≤ e.pl
  fin : s.isFin = true ↔ (scTop B D K).ok = true ∧ (scTop B D K).to = i
  good : i < B.length → (∀ n ∈ scNotes B D K S, i < n.1) → i < S ∧ (fstep D K i s (B.getD i 0)).notes = [] ∧ ∃ s' E3, (fstep D K i s (B.getD i 0)).next = some s' ∧ E2 = (fstep D K i s (B.getD i 0)).evs ++ E3 ∧ ∀ e ∈ E3, i < e.pl
  bad : i < B.length → (∃ n ∈ scNotes B D K S, n.1 = i) → (S ≤ i → (i, 1) ∈ scNotes B D K S) ∧ (i < S → ∃ e r, (fstep D K i s (B.getD i 0)).notes = (i, e) :: r ∧ (i, e) ∈ scNotes B D K S ∧ ∀ n ∈ scNotes B D K S, n.1 = i → e ≤ n.2)
theorem fr_fin {i s j s' N E} (h : FR D K B i s j s' N E) (hf : s.isFin = true) : i = j := by
  cases h with
  | refl => rfl
  | cons hi hn _ =>
    obtain ⟨st, c⟩ := s
    cases c with
    | fin => exact absurd (show (none : Option AQ) = some _ from hn) (by simp)
    | head q => cases hf
    | text n t u => cases hf
    | ended => cases hf
theorem fr_same {i s s' N E} (h : FR D K B i s i s' N E) : s = s' := by
  cases h with
  | refl => rfl
  | cons hi hn g => have := g.le; omega
theorem ahead_of (i : Nat) (hi : i ≤ B.length) (hn : ∀ n ∈ scNotes B D K S, i ≤ n.1) : ∃ s E1 E2, Ahead D K S B i s E1 E2 := by
  obtain ⟨w, sw, N, hw, g, hst, hN, hfin, hto⟩ := top_run (D := D) (K := K) (B := B)
  have hmem : ∀ n : Note, n.1 ≤ w → n ∈ N ++ (if w < B.length then (fstep D K w sw (B.getD w 0)).notes else []) → n ∈ scNotes B D K S := fun n h1 h2 => by
    unfold scNotes
    rw [← List.append_assoc]
    exact List.mem_append_left _ ((hN n (.inl h1)).1 h2)
  have hmem2 : ∀ n : Note, n.1 ≤ w → n ∈ scNotes B D K S → n = (S, 1) ∧ S < B.length ∨ n ∈ N ++ (if w < B.length then (fstep D K w sw (B.getD w 0)).notes else []) := fun n h1 h2 => by
    unfold scNotes at h2
    rw [← List.append_assoc] at h2
    rcases List.mem_append.1 h2 with h | h
    · exact .inr ((hN n (.inl h1)).2 h)
    · have := mem_ite.1 h
      exact .inl ⟨this.2, this.1⟩
  have hSz : S < B.length → i ≤ S := fun h => hn (S, 1) (by unfold scNotes; rw [if_pos h]; simp)
  have hSm : S < B.length → (S, 1) ∈ scNotes B D K S := fun h => by unfold scNotes; rw [if_pos h]; simp
  have hiw : i ≤ w := by
    apply Classical.byContradiction
    intro hlt
    have hwb : w < B.length := by omega
    obtain ⟨_, h2⟩ := hst hwb
    cases hx : (fstep D K w sw (B.getD w 0)).notes with
    | nil => exact h2 hx
    | cons n r =>
      have hp := ((fstep_notes (D := D) (K := K) w sw (B.getD w 0)).2.1 n (by rw [hx]; exact List.mem_cons_self)).1
      have := hn n (hmem n (by omega) (List.mem_append_right _ (by rw [if_pos hwb, hx]; exact List.mem_cons_self)))
      omega
  obtain ⟨s, N1, E1, N2, E2, g1, g2, rfl, hE⟩ := g.split i (Nat.zero_le _) hiw
  have hp1 := g1.place
  have hp2 := g2.place
  have hN1 : N1 = [] := by
    cases N1 with
    | nil => rfl
    | cons n r =>
      have h1 := hp1.1 n List.mem_cons_self
      have := hn n (hmem n (by omega) (List.mem_append_left _ (List.mem_append_left _ List.mem_cons_self)))
      omega
  subst hN1
  refine ⟨s, E1, E2, g1, hE, fun e he => (hp2.2 e he).1, ?_, fun hib hgood => ?_, fun hib hbad => ⟨fun hS => ?_, fun hS => ?_⟩⟩
  · constructor
    · intro hf
      have e := fr_fin g2 hf
      subst e
      rw [fr_same g2, hfin] at hf
      exact ⟨hf, (hto hf).symm⟩
    · rintro ⟨h1, h2⟩
      have : w = i := (hto h1).trans h2
      subst this
      rw [fr_same g2, hfin, h1]
  · have hiS : i < S := by
      apply Classical.byContradiction
      intro h
      have h1 : S < B.length := by omega
      have := hgood _ (hSm h1)
      simp only at this
      omega
    rcases Nat.lt_or_ge i w with hlt | hge
    · cases g2 with
      | refl => omega
      | @cons _ _ s' _ _ N3 E3 h1 h2 g3 =>
        refine ⟨hiS, ?_, s', E3, h2, rfl, fun e he => (g3.place.2 e he).1⟩
        cases hx : (fstep D K i s (B.getD i 0)).notes with
        | nil => rfl
        | cons n r =>
          have hp := ((fstep_notes (D := D) (K := K) i s (B.getD i 0)).2.1 n (by rw [hx]; exact List.mem_cons_self)).1
          have := hgood n (hmem n (by omega) (List.mem_append_left _ (List.mem_append_right _ (List.mem_append_left _ (by rw [hx]; exact List.mem_cons_self)))))
          omega
    · obtain rfl : w = i := by omega
      have e := fr_same g2
      subst e
      obtain ⟨_, h2⟩ := hst hib
      cases hx : (fstep D K w s (B.getD w 0)).notes with
      | nil => exact absurd hx h2
      | cons n r =>
        have hp := ((fstep_notes (D := D) (K := K) w s (B.getD w 0)).2.1 n (by rw [hx]; exact List.mem_cons_self)).1
        have := hgood n (hmem n (by omega) (List.mem_append_right _ (by rw [if_pos hib, hx]; exact List.mem_cons_self)))
        omega
  · have h1 : S < B.length := by omega
    have := hSz h1
    obtain rfl : S = i := by omega
    exact hSm h1
  · have key : (∀ n : Note, n.1 = i → n ∈ scNotes B D K S → n ∈ (fstep D K i s (B.getD i 0)).notes) ∧ (∀ n ∈ (fstep D K i s (B.getD i 0)).notes, n ∈ scNotes B D K S) := by
      rcases Nat.lt_or_ge i w with hlt | hge
      · cases g2 with
        | refl => omega
        | @cons _ _ s' _ _ N3 E3 h1 h2 g3 =>
          refine ⟨fun n h1 h2 => ?_, fun n hx => ?_⟩
          · rcases hmem2 n (by omega) h2 with ⟨h, _⟩ | h
            · rw [h] at h1; simp only at h1; omega
            · rcases List.mem_append.1 h with h | h
              · rcases List.mem_append.1 (List.mem_append.1 h |>.resolve_left (fun h => by cases h)) with h | h
                · exact h
                · have := (g3.place.1 n h).1; omega
              · split at h
                · have := ((fstep_notes (D := D) (K := K) w sw (B.getD w 0)).2.1 n h).1; omega
                · cases h
          · have hp := ((fstep_notes (D := D) (K := K) i s (B.getD i 0)).2.1 n hx).1
            exact hmem n (by omega) (List.mem_append_left _ (List.mem_append_right _ (List.mem_append_left _ hx)))
      · obtain rfl : w = i := by omega
        have e := fr_same g2
        subst e
        have hz : N2 = [] := by
          cases g2 with
          | refl => rfl
          | cons _ _ g3 => have := g3.le; omega
        subst hz
        rw [if_pos hib] at hmem2 hmem
        refine ⟨fun n h1 h2 => ?_, fun n hx => ?_⟩
        · rcases hmem2 n (by omega) h2 with ⟨h, _⟩ | h
          · rw [h] at h1; simp only at h1; omega
          · simpa using h
        · have hp := ((fstep_notes (D := D) (K := K) w s (B.getD w 0)).2.1 n hx).1
          exact hmem n (by omega) (List.mem_append_right _ hx)
    obtain ⟨n0, hn0, hp0⟩ := hbad
    have hin := key.1 n0 hp0 hn0
    have hfn := fstep_notes (D := D) (K := K) i s (B.getD i 0)
    cases hx : (fstep D K i s (B.getD i 0)).notes with
    | nil => rw [hx] at hin; cases hin
    | cons n r =>
      have hp := (hfn.2.1 n (by rw [hx]; exact List.mem_cons_self)).1
      have e1 : n = (i, n.2) := Prod.ext hp rfl
      refine ⟨n.2, r, by rw [← e1], ?_, fun m hm hm1 => ?_⟩
      · rw [← e1]; exact key.2 n (by rw [hx]; exact List.mem_cons_self)
      · have := key.1 m hm1 hm
        rw [hx] at this hfn
        rcases List.mem_cons.1 this with h | h
        · rw [h]; exact Int.le_refl _
        · exact (List.pairwise_cons.1 hfn.1).1 m h
/-- The least place, of several the least number. -/
def firstN : Option Note → List Note → Option Note
  | o, [] => o
  | none, n :: r => firstN (some n) r
  | some m, n :: r => firstN (some (if n.1 < m.1 ∨ n.1 = m.1 ∧ n.2 < m.2 then n else m)) r
def Note.leq (m n : Note) : Prop := m.1 < n.1 ∨ m.1 = n.1 ∧ m.2 ≤ n.2
theorem firstN_some (N : List Note) : ∀ m : Note, ∃ k, firstN (some m) N = some k ∧ (k = m ∨ k ∈ N) ∧ Note.leq k m ∧ ∀ n ∈ N, Note.leq k n := by
  induction N with
  | nil => intro m; exact ⟨m, rfl, .inl rfl, .inr ⟨rfl, Int.le_refl _⟩, fun n h => (by cases h)⟩
  | cons n r ih =>
    intro m
    obtain ⟨k, h1, h2, h3, h4⟩ := ih (if n.1 < m.1 ∨ n.1 = m.1 ∧ n.2 < m.2 then n else m)
    refine ⟨k, h1, ?_, ?_, ?_⟩
    · rcases h2 with h | h
      · split at h
        · exact .inr (h ▸ List.mem_cons_self)
        · exact .inl h
      · exact .inr (List.mem_cons_of_mem _ h)
    · unfold Note.leq at *
      split at h3 <;> omega
    · intro x hx
      rcases List.mem_cons.1 hx with rfl | hx
      · unfold Note.leq at *
        split at h3 <;> omega
      · exact h4 x hx
theorem firstN_none (N : List Note) : (N = [] ∧ firstN none N = none) ∨ ∃ k, firstN none N = some k ∧ k ∈ N ∧ ∀ n ∈ N, Note.leq k n := by
  cases N with
  | nil => exact .inl ⟨rfl, rfl⟩
  | cons n r =>
    obtain ⟨k, h1, h2, h3, h4⟩ := firstN_some r n
    refine .inr ⟨k, h1, ?_, ?_⟩
    · rcases h2 with h | h
      · exact h ▸ List.mem_cons_self
      · exact List.mem_cons_of_mem _ h
    · intro x hx
      rcases List.mem_cons.1 hx with rfl | hx
      · exact h3
      · exact h4 x hx
theorem FR.vals {i s j s' N E} (h : FR D K B i s j s' N E) : ∀ n ∈ N, 2 ≤ n.2 := by
  induction h with
  | refl => intro n h; cases h
  | @cons i s s' j s'' N E hi hn g ih =>
    intro n h
    rcases List.mem_append.1 h with h | h
    · exact ((fstep_notes (D := D) (K := K) i s (B.getD i 0)).2.1 n h).2.1
    · exact ih n h
/-- The least note stands within the bytes. -/
theorem first_lt {k : Note} (hk : k ∈ scNotes B D K S) (hl : ∀ n ∈ scNotes B D K S, Note.leq k n) : k.1 < B.length ∧ 1 ≤ k.2 := by
  obtain ⟨w, sw, N, hw, g, hst, hN, _, _⟩ := top_run (D := D) (K := K) (B := B)
  have hv : (k.1 ≤ w ∨ w = B.length) → 1 ≤ k.2 := fun h1 => by
    have hk' := hk
    unfold scNotes at hk'
    rw [← List.append_assoc] at hk'
    rcases List.mem_append.1 hk' with h | h
    · rcases List.mem_append.1 ((hN k h1).2 h) with h | h
      · have := g.vals k h; omega
      · split at h
        · have := ((fstep_notes (D := D) (K := K) w sw (B.getD w 0)).2.1 k h).2.1; omega
        · cases h
    · have := mem_ite.1 h
      rw [this.2]; exact Int.le_refl 1
  rcases Nat.lt_or_ge w B.length with hlt | hge
  · obtain ⟨_, h2⟩ := hst hlt
    cases hx : (fstep D K w sw (B.getD w 0)).notes with
    | nil => exact absurd hx h2
    | cons n r =>
      have hp := ((fstep_notes (D := D) (K := K) w sw (B.getD w 0)).2.1 n (by rw [hx]; exact List.mem_cons_self)).1
      have hm : n ∈ scNotes B D K S := by
        unfold scNotes
        rw [← List.append_assoc]
        refine List.mem_append_left _ ((hN n (.inl (by omega))).1 (List.mem_append_right _ ?_))
        rw [if_pos hlt, hx]; exact List.mem_cons_self
      have := hl n hm
      unfold Note.leq at this
      exact ⟨by omega, hv (by omega)⟩
  · refine ⟨?_, hv (.inr (by omega))⟩
    unfold scNotes at hk
    rw [← List.append_assoc] at hk
    rcases List.mem_append.1 hk with h | h
    · have := (hN k (.inr (by omega))).2 h
      rw [if_neg (by omega), List.append_nil] at this
      have := (g.place.1 k this).2
      omega
    · have := mem_ite.1 h
      rw [this.2]; exact this.1
end
end Go.Proofs.Ytmclmfhimdppjaa
