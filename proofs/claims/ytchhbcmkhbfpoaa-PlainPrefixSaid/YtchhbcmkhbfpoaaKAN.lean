/- Package auto: what the scan of the whole says of each byte. -/
import Derived.Test.YtchhbcmkhbfpoaaKAM
import Derived.Test.YtchhbcmkhbfpoaaKAI
import Derived.Maps.AppendAt
import Derived.Deep.RegionLaw
namespace Go.Proofs.Ytchhbcmkhbfpoaa
def AQ.isFin (s : AQ) : Bool := match s.ctl with | .fin => true | _ => false
noncomputable def scTop (B : List Int) (D K : Nat) : Sc := scItem B D K (B.length + 1) 0 1 false
/-- All that the document notes. -/
noncomputable def scNotes (B : List Int) (D K S : Nat) : List Note :=
  (scTop B D K).notes ++ ((if (scTop B D K).ok = true ∧ (scTop B D K).to < B.length then [((scTop B D K).to, 2)] else []) ++ (if S < B.length then [(S, 1)] else []))
section
variable {D K S : Nat} {B : List Int}
theorem top_run : ∃ w s N, w ≤ B.length ∧ FR D K B 0 aq0 w s N (scTop B D K).evs ∧ (w < B.length → (fstep D K w s (B.getD w 0)).next = none ∧ (fstep D K w s (B.getD w 0)).notes ≠ []) ∧
    (∀ n : Note, (n.1 ≤ w ∨ w = B.length) → (n ∈ N ++ (if w < B.length then (fstep D K w s (B.getD w 0)).notes else []) ↔ n ∈ (scTop B D K).notes ++ (if (scTop B D K).ok = true ∧ (scTop B D K).to < B.length then [((scTop B D K).to, 2)] else []))) ∧
    s.isFin = (scTop B D K).ok ∧ ((scTop B D K).ok = true → w = (scTop B D K).to) := by
  obtain ⟨E, hE, hS, _⟩ := item_sim (D := D) (K := K) (B := B) (B.length + 1) 0 [] false (by omega) (Nat.zero_le _) ⟨fun h => (by cases h), fun _ f st' h => (by cases h)⟩
  have e0 : scItem B D K (B.length + 1) 0 (([] : List Fr).length + 1) false = scTop B D K := rfl
  rw [e0] at hE hS
  have hkn : ∀ a b n, ¬ Kn K [] a b n := fun a b n h => by obtain ⟨_, _, _, f, hf, _⟩ := h; cases hf
  cases hok : (scTop B D K).ok with
  | true =>
    obtain ⟨_, h2, N, g, hN⟩ := hS.ok hok
    have g2 : Goes D K B (scTop B D K).to ⟨[], .ended⟩ (scTop B D K).to ⟨[], .fin⟩ [] [endEv false 1 (scTop B D K).to] := Goes.end1 rfl rfl
    have g3 := g.trans g2
    have hev := hE hok
    rw [List.append_nil] at g3
    have g4 := (goes_fr g3 rfl).2 rfl
    rw [show E ++ [endEv false 1 (scTop B D K).to] = (scTop B D K).evs from hev.symm] at g4
    refine ⟨(scTop B D K).to, ⟨[], .fin⟩, N, h2, g4, fun _ => ?_, fun n _ => ?_, rfl, fun _ => rfl⟩
    · have e1 : fstep D K (scTop B D K).to ⟨[], .fin⟩ (B.getD (scTop B D K).to 0) = ⟨none, [((scTop B D K).to, 2)], []⟩ := rfl
      rw [e1]
      exact ⟨rfl, by simp⟩
    · have e1 : fstep D K (scTop B D K).to ⟨[], .fin⟩ (B.getD (scTop B D K).to 0) = ⟨none, [((scTop B D K).to, 2)], []⟩ := rfl
      rw [e1, List.mem_append, List.mem_append, hN]
      simp [hkn]
  | false =>
    obtain ⟨w, s, N, _, h2, g, hh, hN⟩ := hS.no hok
    have hf : s.isEnded = false ∧ s.isFin = false := by
      obtain ⟨st, c⟩ := s
      rcases hh with ⟨_, ⟨q, h⟩ | ⟨n, t, u, h⟩⟩ | ⟨_, ⟨q, h⟩, _⟩ <;> (dsimp only at h; subst h; exact ⟨rfl, rfl⟩)
    refine ⟨w, s, N, h2, (goes_fr g hf.1).2 rfl, fun hw => ?_, fun n hn => ?_, hf.2, fun h => (by cases h)⟩
    · rcases hh with ⟨h, _⟩ | ⟨_, _, h1, h2⟩
      · omega
      · rw [fstep_none h1]; exact ⟨h1, h2⟩
    · have := hN n hn
      unfold hnts at this
      rw [List.mem_append] at this ⊢
      rcases hh with ⟨h, _⟩ | ⟨_, _, h1, h2⟩
      · rw [if_neg (by omega)] at this ⊢
        rw [this]
        simp [hkn]
      · rw [fstep_none h1]
        rw [this]
        simp [hkn]
/-- A place ahead of which nothing is wrong: the machine's state, the events told so far; what the next byte comes to. -/
structure Ahead (D K S : Nat) (B : List Int) (i : Nat) (s : AQ) (E1 E2 : List AEv) : Prop where
  run : FR D K B 0 aq0 i s [] E1
  evs : (scTop B D K).evs = E1 ++ E2
  late : ∀ e ∈ E2, i ≤ e.pl
  fin : s.isFin = true ↔ (scTop B D K).ok = true ∧ (scTop B D K).to = i
  good : i < B.length → (∀ n ∈ scNotes B D K S, i < n.1) → i < S ∧ (fstep D K i s (B.getD i 0)).notes = [] ∧ ∃ s' E3, (fstep D K i s (B.getD i 0)).next = some s' ∧ E2 = (fstep D K i s (B.getD i 0)).evs ++ E3 ∧ ∀ e ∈ E3, i < e.pl
  bad : i < B.length → (∃ n ∈ scNotes B D K S, n.1 = i) → (S ≤ i → (i, 1) ∈ scNotes B D K S) ∧ (i < S → ∃ e r, (fstep D K i s (B.getD i 0)).notes = (i, e) :: r ∧ (i, e) ∈ scNotes B D K S ∧ ∀ n ∈ scNotes B D K S, n.1 = i → e ≤ n.2)
theorem fr_fin {i s j s' N E} (h : FR D K B i s j s' N E) (hf : s.isFin = true) : i = j := by
  cases h with
  | refl => rfl
  | cons hi hn _ =>
    obtain ⟨st, c⟩ := s
    cases c with
    | fin => exact absurd (show (none : Option AQ) = some _ from hn) (by simp)
    | head q => cases hf
    | text n t u => cases hf
    | ended => cases hf
theorem fr_same {i s s' N E} (h : FR D K B i s i s' N E) : s = s' := by
  cases h with
  | refl => rfl
  | cons hi hn g => have := g.le; omega
theorem ahead_of (i : Nat) (hi : i ≤ B.length) (hn : ∀ n ∈ scNotes B D K S, i ≤ n.1) : ∃ s E1 E2, Ahead D K S B i s E1 E2 := by
  obtain ⟨w, sw, N, hw, g, hst, hN, hfin, hto⟩ := top_run (D := D) (K := K) (B := B)
  have hmem : ∀ n : Note, n.1 ≤ w → n ∈ N ++ (if w < B.length then (fstep D K w sw (B.getD w 0)).notes else []) → n ∈ scNotes B D K S := fun n h1 h2 => by
    unfold scNotes
    rw [← List.append_assoc]
    exact List.mem_append_left _ ((hN n (.inl h1)).1 h2)
  have hmem2 : ∀ n : Note, n.1 ≤ w → n ∈ scNotes B D K S → n = (S, 1) ∧ S < B.length ∨ n ∈ N ++ (if w < B.length then (fstep D K w sw (B.getD w 0)).notes else []) := fun n h1 h2 => by
    unfold scNotes at h2
    rw [← List.append_assoc] at h2
    rcases List.mem_append.1 h2 with h | h
    · exact .inr ((hN n (.inl h1)).2 h)
    · have := mem_ite.1 h
      exact .inl ⟨this.2, this.1⟩
  have hSz : S < B.length → i ≤ S := fun h => hn (S, 1) (by unfold scNotes; rw [if_pos h]; simp)
  have hSm : S < B.length → (S, 1) ∈ scNotes B D K S := fun h => by unfold scNotes; rw [if_pos h]; simp
  have hiw : i ≤ w := by
    apply Classical.byContradiction
    intro hlt
    have hwb : w < B.length := by omega
    obtain ⟨_, h2⟩ := hst hwb
    cases hx : (fstep D K w sw (B.getD w 0)).notes with
    | nil => exact h2 hx
    | cons n r =>
      have hp := ((fstep_notes (D := D) (K := K) w sw (B.getD w 0)).2.1 n (by rw [hx]; exact List.mem_cons_self)).1
      have := hn n (hmem n (by omega) (List.mem_append_right _ (by rw [if_pos hwb, hx]; exact List.mem_cons_self)))
      omega
  obtain ⟨s, N1, E1, N2, E2, g1, g2, rfl, hE⟩ := g.split i (Nat.zero_le _) hiw
  have hp1 := g1.place
  have hp2 := g2.place
  have hN1 : N1 = [] := by
    cases N1 with
    | nil => rfl
    | cons n r =>
      have h1 := hp1.1 n List.mem_cons_self
      have := hn n (hmem n (by omega) (List.mem_append_left _ (List.mem_append_left _ List.mem_cons_self)))
      omega
  subst hN1
  refine ⟨s, E1, E2, g1, hE, fun e he => (hp2.2 e he).1, ?_, fun hib hgood => ?_, fun hib hbad => ⟨fun hS => ?_, fun hS => ?_⟩⟩
  · constructor
    · intro hf
      have e := fr_fin g2 hf
      subst e
      rw [fr_same g2, hfin] at hf
      exact ⟨hf, (hto hf).symm⟩
    · rintro ⟨h1, h2⟩
      have : w = i := (hto h1).trans h2
      subst this
      rw [fr_same g2, hfin, h1]
  · have hiS : i < S := by
      apply Classical.byContradiction
      intro h
      have h1 : S < B.length := by omega
      have := hgood _ (hSm h1)
      simp only at this
      omega
    rcases Nat.lt_or_ge i w with hlt | hge
    · cases g2 with
      | refl => omega
      | @cons _ _ s' _ _ N3 E3 h1 h2 g3 =>
        refine ⟨hiS, ?_, s', E3, h2, rfl, fun e he => (g3.place.2 e he).1⟩
        cases hx : (fstep D K i s (B.getD i 0)).notes with
        | nil => rfl
        | cons n r =>
          have hp := ((fstep_notes (D := D) (K := K) i s (B.getD i 0)).2.1 n (by rw [hx]; exact List.mem_cons_self)).1
          have := hgood n (hmem n (by omega) (List.mem_append_left _ (List.mem_append_right _ (List.mem_append_left _ (by rw [hx]; exact List.mem_cons_self)))))
          omega
    · obtain rfl : w = i := by omega
      have e := fr_same g2
      subst e
      obtain ⟨_, h2⟩ := hst hib
      cases hx : (fstep D K w s (B.getD w 0)).notes with
      | nil => exact absurd hx h2
      | cons n r =>
        have hp := ((fstep_notes (D := D) (K := K) w s (B.getD w 0)).2.1 n (by rw [hx]; exact List.mem_cons_self)).1
        have := hgood n (hmem n (by omega) (List.mem_append_right _ (by rw [if_pos hib, hx]; exact List.mem_cons_self)))
        omega
  · have h1 : S < B.length := by omega
    have := hSz h1
    obtain rfl : S = i := by omega
    exact hSm h1
  · have key : (∀ n : Note, n.1 = i → n ∈ scNotes B D K S → n ∈ (fstep D K i s (B.getD i 0)).notes) ∧ (∀ n ∈ (fstep D K i s (B.getD i 0)).notes, n ∈ scNotes B D K S) := by
      rcases Nat.lt_or_ge i w with hlt | hge
      · cases g2 with
        | refl => omega
        | @cons _ _ s' _ _ N3 E3 h1 h2 g3 =>
          refine ⟨fun n h1 h2 => ?_, fun n hx => ?_⟩
          · rcases hmem2 n (by omega) h2 with ⟨h, _⟩ | h
            · rw [h] at h1; simp only at h1; omega
            · rcases List.mem_append.1 h with h | h
              · rcases List.mem_append.1 (List.mem_append.1 h |>.resolve_left (fun h => by cases h)) with h | h
                · exact h
                · have := (g3.place.1 n h).1; omega
              · split at h
                · have := ((fstep_notes (D := D) (K := K) w sw (B.getD w 0)).2.1 n h).1; omega
                · cases h
          · have hp := ((fstep_notes (D := D) (K := K) i s (B.getD i 0)).2.1 n hx).1
            exact hmem n (by omega) (List.mem_append_left _ (List.mem_append_right _ (List.mem_append_left _ hx)))
      · obtain rfl : w = i := by omega
        have e := fr_same g2
        subst e
        have hz : N2 = [] := by
          cases g2 with
          | refl => rfl
          | cons _ _ g3 => have := g3.le; omega
        subst hz
        rw [if_pos hib] at hmem2 hmem
        refine ⟨fun n h1 h2 => ?_, fun n hx => ?_⟩
        · rcases hmem2 n (by omega) h2 with ⟨h, _⟩ | h
          · rw [h] at h1; simp only at h1; omega
          · simpa using h
        · have hp := ((fstep_notes (D := D) (K := K) w s (B.getD w 0)).2.1 n hx).1
          exact hmem n (by omega) (List.mem_append_right _ hx)
    obtain ⟨n0, hn0, hp0⟩ := hbad
    have hin := key.1 n0 hp0 hn0
    have hfn := fstep_notes (D := D) (K := K) i s (B.getD i 0)
    cases hx : (fstep D K i s (B.getD i 0)).notes with
    | nil => rw [hx] at hin; cases hin
    | cons n r =>
      have hp := (hfn.2.1 n (by rw [hx]; exact List.mem_cons_self)).1
      have e1 : n = (i, n.2) := Prod.ext hp rfl
      refine ⟨n.2, r, by rw [← e1], ?_, fun m hm hm1 => ?_⟩
      · rw [← e1]; exact key.2 n (by rw [hx]; exact List.mem_cons_self)
      · have := key.1 m hm1 hm
        rw [hx] at this hfn
        rcases List.mem_cons.1 this with h | h
        · rw [h]; exact Int.le_refl _
        · exact (List.pairwise_cons.1 hfn.1).1 m h
/-- The least place, of several the least number. -/
def firstN : Option Note → List Note → Option Note
  | o, [] => o
  | none, n :: r => firstN (some n) r
  | some m, n :: r => firstN (some (if n.1 < m.1 ∨ n.1 = m.1 ∧ n.2 < m.2 then n else m)) r
def Note.leq (m n : Note) : Prop := m.1 < n.1 ∨ m.1 = n.1 ∧ m.2 ≤ n.2
theorem firstN_some (N : List Note) : ∀ m : Note, ∃ k, firstN (some m) N = some k ∧ (k = m ∨ k ∈ N) ∧ Note.leq k m ∧ ∀ n ∈ N, Note.leq k n := by
  induction N with
  | nil => intro m; exact ⟨m, rfl, .inl rfl, .inr ⟨rfl, Int.le_refl _⟩, fun n h => (by cases h)⟩
  | cons n r ih =>
    intro m
    obtain ⟨k, h1, h2, h3, h4⟩ := ih (if n.1 < m.1 ∨ n.1 = m.1 ∧ n.2 < m.2 then n else m)
    refine ⟨k, h1, ?_, ?_, ?_⟩
    · rcases h2 with h | h
      · split at h
        · exact .inr (h ▸ List.mem_cons_self)
        · exact .inl h
      · exact .inr (List.mem_cons_of_mem _ h)
    · unfold Note.leq at *
      split at h3 <;> omega
    · intro x hx
      rcases List.mem_cons.1 hx with rfl | hx
      · unfold Note.leq at *
        split at h3 <;> omega
      · exact h4 x hx
theorem firstN_none (N : List Note) : (N = [] ∧ firstN none N = none) ∨ ∃ k, firstN none N = some k ∧ k ∈ N ∧ ∀ n ∈ N, Note.leq k n := by
  cases N with
  | nil => exact .inl ⟨rfl, rfl⟩
  | cons n r =>
    obtain ⟨k, h1, h2, h3, h4⟩ := firstN_some r n
    refine .inr ⟨k, h1, ?_, ?_⟩
    · rcases h2 with h | h
      · exact h ▸ List.mem_cons_self
      · exact List.mem_cons_of_mem _ h
    · intro x hx
      rcases List.mem_cons.1 hx with rfl | hx
      · exact h3
      · exact h4 x hx
theorem FR.vals {i s j s' N E} (h : FR D K B i s j s' N E) : ∀ n ∈ N, 2 ≤ n.2 := by
  induction h with
  | refl => intro n h; cases h
  | @cons i s s' j s'' N E hi hn g ih =>
    intro n h
    rcases List.mem_append.1 h with h | h
    · exact ((fstep_notes (D := D) (K := K) i s (B.getD i 0)).2.1 n h).2.1
    · exact ih n h
/-- The least note stands within the bytes. -/
theorem first_lt {k : Note} (hk : k ∈ scNotes B D K S) (hl : ∀ n ∈ scNotes B D K S, Note.leq k n) : k.1 < B.length ∧ 1 ≤ k.2 := by
  obtain ⟨w, sw, N, hw, g, hst, hN, _, _⟩ := top_run (D := D) (K := K) (B := B)
  have hv : (k.1 ≤ w ∨ w = B.length) → 1 ≤ k.2 := fun h1 => by
    have hk' := hk
    unfold scNotes at hk'
    rw [← List.append_assoc] at hk'
    rcases List.mem_append.1 hk' with h | h
    · rcases List.mem_append.1 ((hN k h1).2 h) with h | h
      · have := g.vals k h; omega
      · split at h
        · have := ((fstep_notes (D := D) (K := K) w sw (B.getD w 0)).2.1 k h).2.1; omega
        · cases h
    · have := mem_ite.1 h
      rw [this.2]; exact Int.le_refl 1
  rcases Nat.lt_or_ge w B.length with hlt | hge
  · obtain ⟨_, h2⟩ := hst hlt
    cases hx : (fstep D K w sw (B.getD w 0)).notes with
    | nil => exact absurd hx h2
    | cons n r =>
      have hp := ((fstep_notes (D := D) (K := K) w sw (B.getD w 0)).2.1 n (by rw [hx]; exact List.mem_cons_self)).1
      have hm : n ∈ scNotes B D K S := by
        unfold scNotes
        rw [← List.append_assoc]
        refine List.mem_append_left _ ((hN n (.inl (by omega))).1 (List.mem_append_right _ ?_))
        rw [if_pos hlt, hx]; exact List.mem_cons_self
      have := hl n hm
      unfold Note.leq at this
      exact ⟨by omega, hv (by omega)⟩
  · refine ⟨?_, hv (.inr (by omega))⟩
    unfold scNotes at hk
    rw [← List.append_assoc] at hk
    rcases List.mem_append.1 hk with h | h
    · have := (hN k (.inr (by omega))).2 h
      rw [if_neg (by omega), List.append_nil] at this
      have := (g.place.1 k this).2
      omega
    · have := mem_ite.1 h
      rw [this.2]; exact this.1
end
end Go.Proofs.Ytchhbcmkhbfpoaa

/- Slices of the call's own whose elements are several cells, or no numbers. -/
namespace Go.Proofs.Ytchhbcmkhbfpoaa
open Go.RowKit
section
variable {w w' : World} {B g m n cap s j : Nat} {e : TypeId} {v : Value} {cs : List Value}
theorem oc_head (h : w.ownsRow B e s v n cs) (hn : 0 < n) : ∃ g cap, v = .slice (some ⟨g, 0, none⟩) n cap ∧ n ≤ cap ∧ cap ≤ maxLen ∧ B ≤ g ∧ g < w.heap.size := by
  rcases h.2 with ⟨_, hz⟩ | ⟨g, cap, cur, rfl, hg, hh, hn, hc, hs, ht⟩
  · omega
  · exact ⟨g, cap, rfl, hn, hc, hg, (Array.getElem?_eq_some_iff.1 hh).1⟩
/-- Its value. -/
theorem oc_form (h : w.ownsRow B e s v n cs) : ∃ A cap, v = .slice A n cap ∧ n ≤ cap ∧ cap ≤ maxLen ∧ (A = none → cap = 0) ∧ (∀ p, A = some p → ∃ g, p = ⟨g, 0, none⟩ ∧ B ≤ g ∧ g < w.heap.size) := by
  rcases h.2 with ⟨rfl, hz⟩ | ⟨g, cap, cur, rfl, hg, hh, hn, hc, hs, ht⟩
  · exact ⟨none, 0, by rw [hz], by omega, by unfold maxLen; omega, fun _ => rfl, fun p hp => by cases hp⟩
  · exact ⟨some ⟨g, 0, none⟩, cap, rfl, hn, hc, (fun h => by cases h), fun p hp => ⟨g, by injection hp with hp; exact hp.symm, hg, (Array.getElem?_eq_some_iff.1 hh).1⟩⟩
theorem oc_blk (h : w.ownsRow B e s (.slice (some ⟨g, 0, none⟩) m cap) n cs) : ∃ cur, Blk w g e cur ∧ B ≤ g ∧ n ≤ cap ∧ m = n ∧ cur.size = cap * s ∧ cur.toList.take (n * s) = cs := by
  rcases h.2 with ⟨hz, _⟩ | ⟨g', cap', cur, hv, hg, hh, hn, hc, hs, ht⟩
  · cases hz
  · injection hv with e1 e2 e3
    injection e1 with e1
    injection e1 with e1
    subst e1 e2 e3
    exact ⟨cur, hh, hg, hn, rfl, hs, ht⟩
theorem oc_cell (h : w.ownsRow B e s (.slice (some ⟨g, 0, none⟩) m cap) n cs) (hj : j < n * s) : w.cell? ⟨g, j, none⟩ = cs[j]? ∧ w.frozen? ⟨g, j, none⟩ = false := by
  obtain ⟨cur, hb, _, _, _, hs, ht⟩ := oc_blk h
  refine ⟨?_, hb.free j⟩
  rw [hb.cell, ← ht, List.getElem?_take, if_pos hj]
  simp
theorem oc_put (h : w.ownsRow B e s (.slice (some ⟨g, 0, none⟩) m cap) n cs) (j : Nat) (u : Value) : (w.setCell ⟨g, j, none⟩ u).ownsRow B e s (.slice (some ⟨g, 0, none⟩) m cap) n (cs.set j u) := by
  have hl := h.1
  rcases h.2 with ⟨hz, _⟩ | ⟨g', cap', cur, hv, hg, hh, hn, hc, hs, ht⟩
  · cases hz
  · injection hv with e1 e2 e3
    injection e1 with e1
    injection e1 with e1
    subst e1 e2 e3
    have hb : Blk w g e cur := hh
    exact ⟨by simpa using hl, .inr ⟨g, cap, cur.setIfInBounds j u, rfl, hg, hb.put j u, hn, hc, by simpa using hs, by rw [Array.toList_setIfInBounds, List.take_set, ht]⟩⟩
theorem oc_keep (h : w.ownsRow B e s v n cs) (hb : ∀ i, B ≤ i → i < w.heap.size → w'.heap[i]? = w.heap[i]?) : w'.ownsRow B e s v n cs := by
  obtain ⟨h1, h2⟩ := h
  refine ⟨h1, ?_⟩
  rcases h2 with h2 | ⟨g, cap, cur, hv, hg, hh, r⟩
  · exact .inl h2
  · exact .inr ⟨g, cap, cur, hv, hg, by rw [hb g hg (Array.getElem?_eq_some_iff.1 hh).1]; exact hh, r⟩
theorem oc_on (h : w.ownsRow B e s v n cs) (hb : Below w.heap.size w w') : w'.ownsRow B e s v n cs := oc_keep h fun i _ hi => hb.block i hi
theorem oc_alloc (h : w.ownsRow B e s v n cs) (ob : Obj) : (w.alloc ob).ownsRow B e s v n cs := oc_on h (below_alloc w ob)
theorem oc_drewN (h : w.ownsRow B e s v n cs) (k : Nat) : (w.drewN k).ownsRow B e s v n cs := h
theorem oc_less (h : w.ownsRow B e s v n cs) {B' : Nat} (hB : B' ≤ B) : w.ownsRow B' e s v n cs := by
  obtain ⟨h1, h2⟩ := h
  refine ⟨h1, ?_⟩
  rcases h2 with h2 | ⟨g, cap, cur, hv, hg, r⟩
  · exact .inl h2
  · exact .inr ⟨g, cap, cur, hv, by omega, r⟩
/-- Another block turns. -/
theorem oc_far (h : w.ownsRow B e s (.slice (some ⟨g, 0, none⟩) m cap) n cs) {p : Addr} (hp : g ≠ p.block) (u : Value) : (w.setCell p u).ownsRow B e s (.slice (some ⟨g, 0, none⟩) m cap) n cs := by
  have hl := h.1
  rcases h.2 with ⟨hz, _⟩ | ⟨g', cap', cur, hv, hg, hh, r⟩
  · cases hz
  · have hv' := hv
    injection hv with e1 e2 e3
    injection e1 with e1
    injection e1 with e1
    subst e1
    exact ⟨hl, .inr ⟨g, cap', cur, hv', hg, (Below.heap_setCell w p u g hp).trans hh, r⟩⟩
theorem oc_cut (h : w.ownsRow B e s (.slice (some ⟨g, 0, none⟩) m cap) n cs) {k : Nat} (hk : k ≤ n) : w.ownsRow B e s (.slice (some ⟨g, 0, none⟩) k cap) k (cs.take (k * s)) := by
  have hl := h.1
  have hks : k * s ≤ n * s := Nat.mul_le_mul_right s hk
  rcases h.2 with ⟨hz, _⟩ | ⟨g', cap', cur, hv, hg, hh, hn, hc, hs, ht⟩
  · cases hz
  · injection hv with e1 e2 e3
    injection e1 with e1
    injection e1 with e1
    subst e1 e2 e3
    refine ⟨by rw [List.length_take]; omega, .inr ⟨g, cap, cur, rfl, hg, hh, by omega, hc, hs, ?_⟩⟩
    rw [← ht, List.take_take, Nat.min_eq_left hks]
/-- A block that has just been made. -/
theorem oc_new (w : World) (B : Nat) (e : TypeId) (s n : Nat) (cells : Array Value) (hc : cells.size = n * s) (hB : B ≤ w.heap.size) (hn : n ≤ maxLen) : (w.alloc (.cells cells e)).ownsRow B e s (.slice (some ⟨w.heap.size, 0, none⟩) n n) n cells.toList := by
  refine ⟨by simpa using hc, .inr ⟨w.heap.size, n, cells, rfl, hB, Blk.fresh w e cells, Nat.le_refl _, hn, hc, ?_⟩⟩
  rw [← hc]
  exact List.take_of_length_le (by simp)
/-- What an append to it leaves as it was. -/
theorem oc_grown (h : w.ownsRow B e s v n cs) (hg : w.grownBy w' v.ownBlock) (hs : B ≤ w.heap.size) : Below B w w' := by
  refine ⟨hg.os, hg.tape, hg.output, hg.size, fun i hi => hg.block i (by omega) ?_⟩
  rcases h.2 with ⟨rfl, _⟩ | ⟨g, cap, cur, rfl, hB, hh, _⟩
  · simp [Value.ownBlock]
  · simp [Value.ownBlock]; omega
end
section
variable {P : Program}
theorem oc_append {w : World} {B : Nat} {t ty e : TypeId} {s bytes : Nat} {v z : Value} {n m c : Nat} {cs news : List Value} {a : Addr} (ht : P.underlying t = some (.slice e))
    (hi : (P.info? e).map (fun i => (i.zero, i.size, i.bytes)) = some (some z, s, bytes)) (hzs : z.cells.size = s) (hsz : 0 < s) (hby : bytes ≤ 64)
    (hown : w.ownsRow B e s v n cs) (hl : news.length = m * s) (hc : ∀ j u, news[j]? = some u → w.cell? (a.add j) = some u) (h1 : ∀ u ∈ news, u.oneCell' = true) (hb : n + m ≤ 1099511627776) (hB : B ≤ w.heap.size) :
    ∃ v' w', (Builtin.append_ #[t, t] ty #[v, .slice (some a) m c]).run P w = .ok v' w' ∧ w'.ownsRow B e s v' (n + m) (cs ++ news) ∧ Below B w w' ∧ w.grownBy w' v.ownBlock ∧ (v'.ownBlock = v.ownBlock ∨ v'.ownBlock = some w.heap.size) := by
  obtain ⟨i, hi0, hz0, hz1, hz2⟩ := info_parts hi
  have hm : (n + m) * bytes ≤ 140737488355328 := Nat.le_trans (Nat.mul_le_mul hb hby) (by omega : 1099511627776 * 64 ≤ 140737488355328)
  obtain ⟨v', w', h2, h3, h4, _, h5⟩ := run_append_own_at (P := P) w B t ty e i z s bytes ht hi0 hz0 hz1 hz2 hzs hsz v n cs hown a m c news hl hc h1 (by unfold maxLen; omega) hm hB
  exact ⟨v', w', h2, h3, oc_grown hown h4 hB, h4, h5⟩
theorem size_run {elem : TypeId} {sz : Nat} (hs : (P.info? elem).map (·.size) = some sz) (w : World) : (sizeOf elem).run P w = .ok sz w := by
  cases hq : P.info? elem with
  | none => simp [hq] at hs
  | some i =>
    have : i.size = sz := by simpa [hq] using hs
    simp [sizeOf, typeInfo, hq, this]
/-- s[:m] -/
theorem run_less {t elem : TypeId} {sz : Nat} (hu : P.underlying t = some (.slice elem)) (hs : (P.info? elem).map (·.size) = some sz) (w : World) (g len cap m : Nat) (mi : Int) (hmi : mi = m) (hm : m ≤ cap) :
    (Instr.sliceAt t (.slice (some ⟨g, 0, none⟩) len cap) none (some (.int .i64 mi)) none).run P w = .ok (.slice (some ⟨g, 0, none⟩) m cap) w := by
  subst hmi
  have he : P.elem t = elem := by simp [Program.elem, hu]
  rw [run_sliceAt_slice w t _ _ _ _ (by rw [he]; exact hu), run_slice_h w t _ len cap (by rw [he]; exact hu) .i64 m (by omega) (by omega), he, size_run hs]
  simp [sliced, Addr.add_mid]
/-- s[n:] -/
theorem run_cutK {t elem : TypeId} {sz : Nat} (hu : P.underlying t = some (.slice elem)) (hs : (P.info? elem).map (·.size) = some sz) (w : World) (A : Option Addr) (len cap n : Nat) (ni : Int) (hni : ni = n) (hn : n ≤ len) :
    (Instr.sliceAt t (.slice A len cap) (some (.int .i64 ni)) none none).run P w = .ok (.slice (if cap = n then A else A.map (·.add (n * sz))) (len - n) (cap - n)) w := by
  subst hni
  have he : P.elem t = elem := by simp [Program.elem, hu]
  rw [run_sliceAt_slice w t _ _ _ _ (by rw [he]; exact hu), run_slice_l w t A len cap (by rw [he]; exact hu) .i64 n (by omega) (by omega), he, size_run hs]
  simp [sliced]
end
end Go.Proofs.Ytchhbcmkhbfpoaa

/- Append of a slice that reads as cells to one of the call's own, as an arm of a region that draws. -/
namespace Go.Proofs.Ytchhbcmkhbfpoaa
open Go.RowKit

/-- A slice reads as these cells. -/
def RdC (w : World) (y : Value) (xs : List Value) : Prop := ∃ A cap, y = .slice A xs.length cap ∧ (A = none → cap = 0) ∧ (0 < xs.length → ∃ b o, A = some ⟨b, o, none⟩ ∧ ∀ j, j < xs.length → w.cell? ⟨b, o + j, none⟩ = xs[j]?)
section
variable {P : Program}
theorem run_append_row {w : World} {B : Nat} {t ty e : TypeId} {bytes : Nat} {v y z : Value} {n : Nat} {cs xs : List Value} (ht : P.underlying t = some (.slice e))
    (hi : (P.info? e).map (fun i => (i.zero, i.size, i.bytes)) = some (some z, 1, bytes)) (hz : z.cells.size = 1) (hby : bytes ≤ 64)
    (hown : w.ownsRow B e 1 v n cs) (hr : RdC w y xs) (h1 : ∀ u ∈ xs, u.oneCell' = true) (hb : n + xs.length ≤ 1099511627776) (hB : B ≤ w.heap.size) :
    ∃ v' w', (Builtin.append_ #[t, t] ty #[v, y]).run P w = .ok v' w' ∧ w'.ownsRow B e 1 v' (n + xs.length) (cs ++ xs) ∧ Below B w w' ∧ w.grownBy w' v.ownBlock := by
  obtain ⟨A, cap, rfl, hn, hc⟩ := hr
  cases A with
  | none =>
    obtain rfl := hn rfl
    have hx : xs = [] := by
      rcases xs with _ | ⟨x, r⟩
      · rfl
      · obtain ⟨b, o, h, _⟩ := hc (by simp)
        cases h
    subst hx
    obtain ⟨i, hi0, hz0, hz1, hz2⟩ := info_parts hi
    exact ⟨v, w, run_append_owned_none (P := P) w B t ty e i 1 ht hi0 v _ _ hown, by simpa using hown, Below.refl _ _, World.grownBy.refl _ _⟩
  | some ad =>
    obtain ⟨v', w', r1, r2, r3, r4, _⟩ := oc_append (P := P) (t := t) (ty := ty) (e := e) (s := 1) (bytes := bytes) (m := xs.length) (c := cap) (news := xs) (a := ad) ht hi hz (by decide) hby hown (by omega)
      (fun j u hj => by
        have hj' : j < xs.length := by
          rcases Nat.lt_or_ge j xs.length with h | h
          · exact h
          · rw [List.getElem?_eq_none h] at hj; cases hj
        obtain ⟨b, o, hA, hcell⟩ := hc (by omega)
        injection hA with hA
        subst hA
        rw [Addr.add_mid, hcell j hj']
        exact hj) h1 hb hB
    exact ⟨v', w', r1, r2, r3, r4⟩
/-- For an arm of a region that draws: append of such a slice to one of the call's own. -/
theorem step_append_row {ops : Array Oper} {o : Oper} {a : Act} {w : World} {K : Act → World → Prop} {Q : Exit → Act → World → Prop} {E : Prop} (hgd : o.guard = none) {s x : Operand} {t e : TypeId}
    (ho : o.op = .call { callee := .builtin .append, args := #[s, x], argTypes := #[t, t] }) {B bytes : Nat} {v y z : Value} {n : Nat} {cs xs : List Value} (hs : a.eval s = v) (hx : a.eval x = y)
    (ht : P.underlying t = some (.slice e)) (hi : (P.info? e).map (fun i => (i.zero, i.size, i.bytes)) = some (some z, 1, bytes)) (hz : z.cells.size = 1) (hby : bytes ≤ 64)
    (hown : w.ownsRow B e 1 v n cs) (hr : RdC w y xs) (h1 : ∀ u ∈ xs, u.oneCell' = true) (hb : n + xs.length ≤ 1099511627776) (hB : B ≤ w.heap.size)
    (h : ∀ v' w', w'.ownsRow B e 1 v' (n + xs.length) (cs ++ xs) → Below B w w' → w.grownBy w' v.ownBlock → K (a.put o.dst v') w') : if Region.wanted o (yielded ops a.tmps) = true then Oper.wp P o a w K Q else E := by
  obtain ⟨v', w', r1, r2, r3, r4⟩ := run_append_row (ty := o.type) ht hi hz hby hown hr h1 hb hB
  exact step_append_run hgd ho r1 hs hx (h v' w' r2 r3 r4)
end

theorem RdC.on {w w' : World} {y : Value} {xs : List Value} (h : RdC w y xs) (hb : Below w.heap.size w w') : RdC w' y xs := by
  obtain ⟨A, cap, h1, h2, h3⟩ := h
  refine ⟨A, cap, h1, h2, fun hp => ?_⟩
  obtain ⟨b, o, hA, hc⟩ := h3 hp
  refine ⟨b, o, hA, fun j hj => ?_⟩
  have h4 := hc j hj
  rw [List.getElem?_eq_getElem hj] at h4 ⊢
  rw [hb.cell (p := ⟨b, o + j, none⟩) (block_lt_of_cell h4)]
  exact h4
/-- A block of another type is left alone. -/
theorem blk_grown {w w' : World} {B g s n : Nat} {e t : TypeId} {v : Value} {cs : List Value} {zs : Array Value} (hb : Blk w g t zs) (h : w.ownsRow B e s v n cs) (ht : t ≠ e) (hg : w.grownBy w' v.ownBlock) : Blk w' g t zs := by
  refine (hg.block g hb.lt ?_).trans hb
  intro he
  rcases h.2 with ⟨rfl, _⟩ | ⟨g', cap, cur, rfl, _, hh, _⟩
  · cases he
  · have e' : g = g' := by simpa [Value.ownBlock] using he
    subst e'
    have := hb.symm.trans hh
    injection this with this
    injection this with _ h2 _
    exact ht h2
theorem Rd.rdc {w : World} {k : IntKind} {A : Option Addr} {zs : List Int} {cap : Nat} (h : Rd w w.heap.size k A zs) (hn : A = none → cap = 0) : RdC w (.slice A zs.length cap) (zs.map (Value.int k)) := by
  refine ⟨A, cap, by rw [List.length_map], hn, fun hp => ?_⟩
  rw [List.length_map] at hp
  obtain ⟨b, o, hA, _, hc⟩ := h hp
  refine ⟨b, o, hA, fun j hj => ?_⟩
  rw [List.length_map] at hj
  rw [hc j hj, List.getElem?_map, List.getElem?_eq_getElem hj]
  simp [List.getD_eq_getElem?_getD, hj]
theorem rd_owned {w : World} {B n : Nat} {e : TypeId} {k : IntKind} {v : Value} {zs : List Int} (h : w.ownsRow B e 1 v n (zs.map (Value.int k))) (hn : n = zs.length) : ∃ A cap, v = .slice A zs.length cap ∧ Rd w w.heap.size k A zs := by
  subst hn
  have ho : Own w B k e v zs := h
  obtain ⟨A, cap, h1, _, _, _, _, h2⟩ := ho.form
  exact ⟨A, cap, h1, h2⟩
end Go.Proofs.Ytchhbcmkhbfpoaa
