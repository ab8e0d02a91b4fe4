/- Package auto: what the scan of the whole says of each byte. -/
import Derived.Test.YtchhbcmkhbfpoaaKAV
namespace Go.Proofs.Ytchhbcmkhbfpoaa
def AQ.isFin (s : AQ) : Bool := match s.ctl with | .fin => true | _ => false
noncomputable def scTop (B : List Int) (D K : Nat) : Sc := scItem B D K (B.length + 1) 0 1 false
/-- All that the document notes. -/
noncomputable def scNotes (B : List Int) (D K S : Nat) : List Note :=
  (scTop B D K).notes ++ ((if (scTop B D K).ok = true ∧ (scTop B D K).to < B.length then [((scTop B D K).to, 2)] else []) ++ (if S < B.length then [(S, 1)] else []))
section
variable {D K S : Nat} {B : List Int}
theorem top_run : ∃ w s N, w ≤ B.length ∧ FR D K B 0 aq0 w s N (scTop B D K).evs ∧ (w < B.length → (fstep D K w s (B.getD w 0)).next = none ∧ (fstep D K w s (B.getD w 0)).notes ≠ []) ∧
    (∀ n : Note, (n.1 ≤ w ∨ w = B.length) → (n ∈ N ++ (if w < B.length then (fstep D K w s (B.getD w 0)).notes else []) ↔ n ∈ (scTop B D K).notes ++ (if (scTop B D K).ok = true ∧ (scTop B D K).to < B.length then [((scTop B D K).to, 2)] else []))) ∧
    s.isFin = (scTop B D K).ok ∧ ((scTop B D K).ok = true → w = (scTop B D K).to) := by
  obtain ⟨E, hE, hS, _⟩ := item_sim (D := D) (K := K) (B := B) (B.length + 1) 0 [] false (by omega) (Nat.zero_le _) ⟨fun h => (by cases h), fun _ f st' h => (by cases h)⟩
  have e0 : scItem B D K (B.length + 1) 0 (([] : List Fr).length + 1) false = scTop B D K := rfl
  rw [e0] at hE hS
  have hkn : ∀ a b n, ¬ Kn K [] a b n := fun a b n h => by obtain ⟨_, _, _, f, hf, _⟩ := h; cases hf
  cases hok : (scTop B D K).ok with
  | true =>
    obtain ⟨_, h2, N, g, hN⟩ := hS.ok hok
    have g2 : Goes D K B (scTop B D K).to ⟨[], .ended⟩ (scTop B D K).to ⟨[], .fin⟩ [] [endEv false 1 (scTop B D K).to] := Goes.end1 rfl rfl
    have g3 := g.trans g2
    have hev := hE hok
    rw [List.append_nil] at g3
    have g4 := (goes_fr g3 rfl).2 rfl
    rw [show E ++ [endEv false 1 (scTop B D K).to] = (scTop B D K).evs from hev.symm] at g4
    refine ⟨(scTop B D K).to, ⟨[], .fin⟩, N, h2, g4, fun _ => ?_, fun n _ => ?_, rfl, fun _ => rfl⟩
    · have e1 : fstep D K (scTop B D K).to ⟨[], .fin⟩ (B.getD (scTop B D K).to 0) = ⟨none, [((scTop B D K).to, 2)], []⟩ := rfl
      rw [e1]
      exact ⟨rfl, by simp⟩
    · have e1 : fstep D K (scTop B D K).to ⟨[], .fin⟩ (B.getD (scTop B D K).to 0) = ⟨none, [((scTop B D K).to, 2)], []⟩ := rfl
      rw [e1, List.mem_append, List.mem_append, hN]
      simp [hkn]
  | false =>
    obtain ⟨w, s, N, _, h2, g, hh, hN⟩ := hS.no hok
    have hf : s.isEnded = false ∧ s.isFin = false := by
      obtain ⟨st, c⟩ := s
      rcases hh with ⟨_, ⟨q, h⟩ | ⟨n, t, u, h⟩⟩ | ⟨_, ⟨q, h⟩, _⟩ <;> (dsimp only at h; subst h; exact ⟨rfl, rfl⟩)
    refine ⟨w, s, N, h2, (goes_fr g hf.1).2 rfl, fun hw => ?_, fun n hn => ?_, hf.2, fun h => (by cases h)⟩
    · rcases hh with ⟨h, _⟩ | ⟨_, _, h1, h2⟩
      · omega
      · rw [fstep_none h1]; exact ⟨h1, h2⟩
    · have := hN n hn
      unfold hnts at this
      rw [List.mem_append] at this ⊢
      rcases hh with ⟨h, _⟩ | ⟨_, _, h1, h2⟩
      · rw [if_neg (by omega)] at this ⊢
        rw [this]
        simp [hkn]
      · rw [fstep_none h1]
        rw [this]
        simp [hkn]
/-- A place ahead of which nothing is wrong: the machine's state, the events told so far; what the next byte comes to. -/
structure Ahead (D K S : Nat) (B : List Int) (i : Nat) (s : AQ) (E1 E2 : List AEv) : Prop where
  run : FR D K B 0 aq0 i s [] E1
  evs : (scTop B D K).evs = E1 ++ E2
  late : ∀ e ∈ E2, i ≤ e.pl
  fin : s.isFin = true ↔ (scTop B D K).ok = true ∧ (scTop B D K).to = i
  good : i < B.length → (∀ n ∈ scNotes B D K S, i < n.1) → i < S ∧ (fstep D K i s (B.getD i 0)).notes = [] ∧ ∃ s' E3, (fstep D K i s (B.getD i 0)).next = some s' ∧ E2 = (fstep D K i s (B.getD i 0)).evs ++ E3 ∧ ∀ e ∈ E3, i < e.pl
  bad : i < B.length → (∃ n ∈ scNotes B D K S, n.1 = i) → (S ≤ i → (i, 1) ∈ scNotes B D K S) ∧ (i < S → ∃ e r, (fstep D K i s (B.getD i 0)).notes = (i, e) :: r ∧ (i, e) ∈ scNotes B D K S ∧ ∀ n ∈ scNotes B D K S, n.1 = i → e ≤ n.2)
theorem fr_fin {i s j s' N E} (h : FR D K B i s j s' N E) (hf : s.isFin = true) : i = j := by
  cases h with
  | refl => rfl
  | cons hi hn _ =>
    obtain ⟨st, c⟩ := s
    cases c with
    | fin => exact absurd (show (none : Option AQ) = some _ from hn) (by simp)
    | head q => cases hf
    | text n t u => cases hf
    | ended => cases hf
theorem fr_same {i s s' N E} (h : FR D K B i s i s' N E) : s = s' := by
  cases h with
  | refl => rfl
  | cons hi hn g => have := g.le; omega
theorem ahead_of (i : Nat) (hi : i ≤ B.length) (hn : ∀ n ∈ scNotes B D K S, i ≤ n.1) : ∃ s E1 E2, Ahead D K S B i s E1 E2 := by
  obtain ⟨w, sw, N, hw, g, hst, hN, hfin, hto⟩ := top_run (D := D) (K := K) (B := B)
  have hmem : ∀ n : Note, n.1 ≤ w → n ∈ N ++ (if w < B.length then (fstep D K w sw (B.getD w 0)).notes else []) → n ∈ scNotes B D K S := fun n h1 h2 => by
    unfold scNotes
    rw [← List.append_assoc]
    exact List.mem_append_left _ ((hN n (.inl h1)).1 h2)
  have hmem2 : ∀ n : Note, n.1 ≤ w → n ∈ scNotes B D K S → n = (S, 1) ∧ S < B.length ∨ n ∈ N ++ (if w < B.length then (fstep D K w sw (B.getD w 0)).notes else []) := fun n h1 h2 => by
    unfold scNotes at h2
    rw [← List.append_assoc] at h2
    rcases List.mem_append.1 h2 with h | h
    · exact .inr ((hN n (.inl h1)).2 h)
    · have := mem_ite.1 h
      exact .inl ⟨this.2, this.1⟩
  have hSz : S < B.length → i ≤ S := fun h => hn (S, 1) (by unfold scNotes; rw [if_pos h]; simp)
  have hSm : S < B.length → (S, 1) ∈ scNotes B D K S := fun h => by unfold scNotes; rw [if_pos h]; simp
  have hiw : i ≤ w := by
    apply Classical.byContradiction
    intro hlt
    have hwb : w < B.length := by omega
    obtain ⟨_, h2⟩ := hst hwb
    cases hx : (fstep D K w sw (B.getD w 0)).notes with
    | nil => exact h2 hx
    | cons n r =>
      have hp := ((fstep_notes (D := D) (K := K) w sw (B.getD w 0)).2.1 n (by rw [hx]; exact List.mem_cons_self)).1
      have := hn n (hmem n (by omega) (List.mem_append_right _ (by rw [if_pos hwb, hx]; exact List.mem_cons_self)))
      omega
  obtain ⟨s, N1, E1, N2, E2, g1, g2, rfl, hE⟩ := g.split i (Nat.zero_le _) hiw
  have hp1 := g1.place
  have hp2 := g2.place
  have hN1 : N1 = [] := by
    cases N1 with
    | nil => rfl
    | cons n r =>
      have h1 := hp1.1 n List.mem_cons_self
      have := hn n (hmem n (by omega) (List.mem_append_left _ (List.mem_append_left _ List.mem_cons_self)))
      omega
  subst hN1
  refine ⟨s, E1, E2, g1, hE, fun e he => (hp2.2 e he).1, ?_, fun hib hgood => ?_, fun hib hbad => ⟨fun hS => ?_, fun hS => ?_⟩⟩
  · constructor
    · intro hf
      have e := fr_fin g2 hf
      subst e
      rw [fr_same g2, hfin] at hf
      exact ⟨hf, (hto hf).symm⟩
    · rintro ⟨h1, h2⟩
      have : w = i := (hto h1).trans h2
      subst this
      rw [fr_same g2, hfin, h1]
  · have hiS : i < S := by
      apply Classical.byContradiction
      intro h
      have h1 : S < B.length := by omega
      have := hgood _ (hSm h1)
      simp only at this
      omega
    rcases Nat.lt_or_ge i w with hlt | hge
    · cases g2 with
      | refl => omega
      | @cons _ _ s' _ _ N3 E3 h1 h2 g3 =>
        refine ⟨hiS, ?_, s', E3, h2, rfl, fun e he => (g3.place.2 e he).1⟩
        cases hx : (fstep D K i s (B.getD i 0)).notes with
        | nil => rfl
        | cons n r =>
          have hp := ((fstep_notes (D := D) (K := K) i s (B.getD i 0)).2.1 n (by rw [hx]; exact List.mem_cons_self)).1
          have := hgood n (hmem n (by omega) (List.mem_append_left _ (List.mem_append_right _ (List.mem_append_left _ (by rw [hx]; exact List.mem_cons_self)))))
          omega
    · obtain rfl : w = i := by omega
      have e := fr_same g2
      subst e
      obtain ⟨_, h2⟩ := hst hib
      cases hx : (fstep D K w s (B.getD w 0)).notes with
      | nil => exact absurd hx h2
      | cons n r =>
        have hp := ((fstep_notes (D := D) (K := K) w s (B.getD w 0)).2.1 n (by rw [hx]; exact List.mem_cons_self)).1
        have := hgood n (hmem n (by omega) (List.mem_append_right _ (by rw [if_pos hib, hx]; exact List.mem_cons_self)))
        omega
  · have h1 : S < B.length := by omega
    have := hSz h1
    obtain rfl : S = i := by omega
    exact hSm h1
  · have key : (∀ n : Note, n.1 = i → n ∈ scNotes B D K S → n ∈ (fstep D K i s (B.getD i 0)).notes) ∧ (∀ n ∈ (fstep D K i s (B.getD i 0)).notes, n ∈ scNotes B D K S) := by
      rcases Nat.lt_or_ge i w with hlt | hge
      · cases g2 with
        | refl => omega
        | @cons _ _ s' _ _ N3 E3 h1 h2 g3 =>
          refine ⟨fun n h1 h2 => ?_, fun n hx => ?_⟩
          · rcases hmem2 n (by omega) h2 with ⟨h, _⟩ | h
            · rw [h] at h1; simp only at h1; omega
            · rcases List.mem_append.1 h with h | h
              · rcases List.mem_append.1 (List.mem_append.1 h |>.resolve_left (fun h => by cases h)) with h | h
                · exact h
                · have := (g3.place.1 n h).1; omega
              · split at h
                · have := ((fstep_notes (D := D) (K := K) w sw (B.getD w 0)).2.1 n h).1; omega
                · cases h
          · have hp := ((fstep_notes (D := D) (K := K) i s (B.getD i 0)).2.1 n hx).1
            exact hmem n (by omega) (List.mem_append_left _ (List.mem_append_right _ (List.mem_append_left _ hx)))
      · obtain rfl : w = i := by omega
        have e := fr_same g2
        subst e
        have hz : N2 = [] := by
          cases g2 with
          | refl => rfl
          | cons _ _ g3 => have := g3.le; omega
        subst hz
        rw [if_pos hib] at hmem2 hmem
        refine ⟨fun n h1 h2 => ?_, fun n hx => ?_⟩
        · rcases hmem2 n (by omega) h2 with ⟨h, _⟩ | h
          · rw [h] at h1; simp only at h1; omega
          · simpa using h
        · have hp := ((fstep_notes (D := D) (K := K) w s (B.getD w 0)).2.1 n hx).1
          exact hmem n (by omega) (List.mem_append_right _ hx)
    obtain ⟨n0, hn0, hp0⟩ := hbad
    have hin := key.1 n0 hp0 hn0
    have hfn := fstep_notes (D := D) (K := K) i s (B.getD i 0)
    cases hx : (fstep D K i s (B.getD i 0)).notes with
    | nil => rw [hx] at hin; cases hin
    | cons n r =>
      have hp := (hfn.2.1 n (by rw [hx]; exact List.mem_cons_self)).1
      have e1 : n = (i, n.2) := Prod.ext hp rfl
      refine ⟨n.2, r, by rw [← e1], ?_, fun m hm hm1 => ?_⟩
      · rw [← e1]; exact key.2 n (by rw [hx]; exact List.mem_cons_self)
      · have := key.1 m hm1 hm
        rw [hx] at this hfn
        rcases List.mem_cons.1 this with h | h
        · rw [h]; exact Int.le_refl _
        · exact (List.pairwise_cons.1 hfn.1).1 m h
/-- The least place, of several the least number. -/
def firstN : Option Note → List Note → Option Note
  | o, [] => o
  | none, n :: r => firstN (some n) r
  | some m, n :: r => firstN (some (if n.1 < m.1 ∨ n.1 = m.1 ∧ n.2 < m.2 then n else m)) r
def Note.leq (m n : Note) : Prop := m.1 < n.1 ∨ m.1 = n.1 ∧ m.2 ≤ n.2
theorem firstN_some (N : List Note) : ∀ m : Note, ∃ k, firstN (some m) N = some k ∧ (k = m ∨ k ∈ N) ∧ Note.leq k m ∧ ∀ n ∈ N, Note.leq k n := by
  induction N with
  | nil => intro m; exact ⟨m, rfl, .inl rfl, .inr ⟨rfl, Int.le_refl _⟩, fun n h => (by cases h)⟩
  | cons n r ih =>
    intro m
    obtain ⟨k, h1, h2, h3, h4⟩ := ih (if n.1 < m.1 ∨ n.1 = m.1 ∧ n.2 < m.2 then n else m)
    refine ⟨k, h1, ?_, ?_, ?_⟩
    · rcases h2 with h | h
      · split at h
        · exact .inr (h ▸ List.mem_cons_self)
        · exact .inl h
      · exact .inr (List.mem_cons_of_mem _ h)
    · unfold Note.leq at *
      split at h3 <;> omega
    · intro x hx
      rcases List.mem_cons.1 hx with rfl | hx
      · unfold Note.leq at *
        split at h3 <;> omega
      · exact h4 x hx
theorem firstN_none (N : List Note) : (N = [] ∧ firstN none N = none) ∨ ∃ k, firstN none N = some k ∧ k ∈ N ∧ ∀ n ∈ N, Note.leq k n := by
  cases N with
  | nil => exact .inl ⟨rfl, rfl⟩
  | cons n r =>
    obtain ⟨k, h1, h2, h3, h4⟩ := firstN_some r n
    refine .inr ⟨k, h1, ?_, ?_⟩
    · rcases h2 with h | h
      · exact h ▸ List.mem_cons_self
      · exact List.mem_cons_of_mem _ h
    · intro x hx
      rcases List.mem_cons.1 hx with rfl | hx
      · exact h3
      · exact h4 x hx
theorem FR.vals {i s j s' N E} (h : FR D K B i s j s' N E) : ∀ n ∈ N, 2 ≤ n.2 := by
  induction h with
  | refl => intro n h; cases h
  | @cons i s s' j s'' N E hi hn g ih =>
    intro n h
    rcases List.mem_append.1 h with h | h
    · exact ((fstep_notes (D := D) (K := K) i s (B.getD i 0)).2.1 n h).2.1
    · exact ih n h
/-- The least note stands within the bytes. -/
theorem first_lt {k : Note} (hk : k ∈ scNotes B D K S) (hl : ∀ n ∈ scNotes B D K S, Note.leq k n) : k.1 < B.length ∧ 1 ≤ k.2 := by
  obtain ⟨w, sw, N, hw, g, hst, hN, _, _⟩ := top_run (D := D) (K := K) (B := B)
  have hv : (k.1 ≤ w ∨ w = B.length) → 1 ≤ k.2 := fun h1 => by
    have hk' := hk
    unfold scNotes at hk'
    rw [← List.append_assoc] at hk'
    rcases List.mem_append.1 hk' with h | h
    · rcases List.mem_append.1 ((hN k h1).2 h) with h | h
      · have := g.vals k h; omega
      · split at h
        · have := ((fstep_notes (D := D) (K := K) w sw (B.getD w 0)).2.1 k h).2.1; omega
        · cases h
    · have := mem_ite.1 h
      rw [this.2]; exact Int.le_refl 1
  rcases Nat.lt_or_ge w B.length with hlt | hge
  · obtain ⟨_, h2⟩ := hst hlt
    cases hx : (fstep D K w sw (B.getD w 0)).notes with
    | nil => exact absurd hx h2
    | cons n r =>
      have hp := ((fstep_notes (D := D) (K := K) w sw (B.getD w 0)).2.1 n (by rw [hx]; exact List.mem_cons_self)).1
      have hm : n ∈ scNotes B D K S := by
        unfold scNotes
        rw [← List.append_assoc]
        refine List.mem_append_left _ ((hN n (.inl (by omega))).1 (List.mem_append_right _ ?_))
        rw [if_pos hlt, hx]; exact List.mem_cons_self
      have := hl n hm
      unfold Note.leq at this
      exact ⟨by omega, hv (by omega)⟩
  · refine ⟨?_, hv (.inr (by omega))⟩
    unfold scNotes at hk
    rw [← List.append_assoc] at hk
    rcases List.mem_append.1 hk with h | h
    · have := (hN k (.inr (by omega))).2 h
      rw [if_neg (by omega), List.append_nil] at this
      have := (g.place.1 k this).2
      omega
    · have := mem_ite.1 h
      rw [this.2]; exact this.1
end
end Go.Proofs.Ytchhbcmkhbfpoaa

/- Package auto: the machine's invariant; the verdict of a row of bytes, and of a longer one; texts as the document's answer sees them. -/
namespace Go.Proofs.Ytchhbcmkhbfpoaa

/-- What a text's note is. -/
theorem unotes_uat (wh : Bool) (xs : List Int) : ∀ (u : UQ) (i k : Nat), u.wr = false →
    (∃ p : Nat, uat u xs k = ((k + p : Nat) : Int) ∧ p < xs.length ∧ unotes wh u xs i = [(i + p, 6)]) ∨
    (uat u xs k = -1 ∧ unotes wh u xs i = (if wh = true ∧ xs ≠ [] ∧ uok u xs = false then [(i + xs.length - 1, 6)] else [])) := by
  induction xs with
  | nil => intro u i k hu; exact .inr ⟨rfl, by simp [unotes]⟩
  | cons c r ih =>
    intro u i k hu
    rw [unotes_cons]
    have e1 : uat u (c :: r) k = if (ustep u c).wr then (k : Int) else uat (ustep u c) r (k + 1) := rfl
    have e2 : uok u (c :: r) = uok (ustep u c) r := rfl
    rw [e1, e2, hu]
    have hwr : ∀ (xs : List Int) (u : UQ) (i : Nat), u.wr = true → unotes wh u xs i = [] := by
      intro xs
      induction xs with
      | nil => intro u i h; rfl
      | cons c r ih =>
        intro u i h
        rw [unotes_cons, h, ih _ _ (by unfold ustep; rw [if_pos h]; exact h)]
        rfl
    cases hw : (ustep u c).wr with
    | true =>
      left
      refine ⟨0, by rw [if_pos rfl]; rfl, by simp, ?_⟩
      rw [hwr r _ _ hw]
      rfl
    | false =>
      rw [if_neg (show ¬ (false = true) by decide)]
      rcases ih (ustep u c) (i + 1) (k + 1) hw with ⟨p, h1, h2, h3⟩ | ⟨h1, h3⟩
      · left
        refine ⟨p + 1, by rw [h1]; congr 1; omega, by simp; omega, ?_⟩
        rw [h3]
        have hr : r.isEmpty = false := by cases r; simp at h2; rfl
        rw [hr]
        simp
        omega
      · right
        refine ⟨h1, ?_⟩
        rw [h3]
        cases r with
        | nil =>
          have : uok (ustep u c) [] = udone (ustep u c) := rfl
          rw [this]
          cases wh <;> cases udone (ustep u c) <;> simp
        | cons c' r' =>
          simp
          by_cases h : wh = true ∧ uok (ustep u c) (c' :: r') = false
          · rw [if_pos h, if_pos h]
            congr 2
            omega
          · rw [if_neg h, if_neg h]

/-- The verdict of the bytes from place i on: the error, the place. -/
noncomputable def svrd (D K S : Nat) : Nat → AQ → List Int → Int × Nat
  | i, s, [] => if s.isFin then (0, 0) else (9, i)
  | i, s, c :: r => if S ≤ i then (1, i) else match (fstep D K i s c).notes, (fstep D K i s c).next with
    | n :: _, _ => (n.2, i)
    | [], some s' => svrd D K S (i + 1) s' r
    | [], none => (2, i)
section
variable {D K S : Nat}
theorem svrd_cons (i : Nat) (s : AQ) (c : Int) (r : List Int) : svrd D K S i s (c :: r) = if S ≤ i then (1, i) else match (fstep D K i s c).notes, (fstep D K i s c).next with
    | n :: _, _ => (n.2, i)
    | [], some s' => svrd D K S (i + 1) s' r
    | [], none => (2, i) := rfl
theorem svrd_range (b : List Int) : ∀ (i : Nat) (s : AQ), (svrd D K S i s b = (0, 0) ∨ svrd D K S i s b = (9, i + b.length) ∨ (1 ≤ (svrd D K S i s b).1 ∧ (svrd D K S i s b).1 ≤ 7 ∧ i ≤ (svrd D K S i s b).2 ∧ (svrd D K S i s b).2 < i + b.length)) := by
  induction b with
  | nil => intro i s; unfold svrd; split <;> simp
  | cons c r ih =>
    intro i s
    rw [svrd_cons]
    have hf := (fstep_notes (D := D) (K := K) i s c).2.1
    split
    · simp
    · cases hx : (fstep D K i s c).notes with
      | cons n t =>
        have := hf n (by rw [hx]; exact List.mem_cons_self)
        right; right
        dsimp only
        simp only [List.length_cons]
        omega
      | nil =>
        cases hy : (fstep D K i s c).next with
        | none => right; right; dsimp only; simp only [List.length_cons]; omega
        | some s' =>
          dsimp only
          rcases ih (i + 1) s' with h | h | h
          · exact .inl h
          · right; left; rw [h]; congr 1; simp only [List.length_cons]; omega
          · right; right; simp only [List.length_cons]; omega
theorem fr_svrd {B : List Int} {i s j s' N E} (h : FR D K B i s j s' N E) : N = [] → j ≤ S → svrd D K S i s (B.drop i) = svrd D K S j s' (B.drop j) := by
  induction h with
  | refl => intro _ _; rfl
  | @cons i s s' j s'' N E hi hn g ih =>
    intro hN hj
    obtain ⟨h1, h2⟩ := List.append_eq_nil_iff.1 hN
    have e : B.drop i = B.getD i 0 :: B.drop (i + 1) := by
      rw [List.drop_eq_getElem_cons hi, List.getD_eq_getElem?_getD, List.getElem?_eq_getElem hi]
      rfl
    have := g.le
    rw [e, svrd_cons, if_neg (by omega), h1, hn]
    exact ih h2 hj
/-- The document's verdict is the machine's. -/
theorem verdict_eq (B : List Int) : svrd D K S 0 aq0 B = (match firstN none (scNotes B D K S) with
    | some m => (m.2, m.1)
    | none => if (scTop B D K).ok then (0, 0) else (9, B.length)) := by
  rcases firstN_none (scNotes B D K S) with ⟨h, h'⟩ | ⟨k, hf, hk, hl⟩
  · rw [h']
    obtain ⟨s, E1, E2, hA⟩ := ahead_of (D := D) (K := K) (S := S) (B := B) B.length (Nat.le_refl _) (fun n hn => by rw [h] at hn; cases hn)
    have hS : B.length ≤ S := by
      apply Classical.byContradiction
      intro hlt
      have : (S, 1) ∈ scNotes B D K S := by unfold scNotes; rw [if_pos (show S < B.length by omega)]; simp
      rw [h] at this; cases this
    have := fr_svrd (S := S) hA.run rfl hS
    rw [List.drop_zero] at this
    rw [this, List.drop_length]
    show (if s.isFin then ((0 : Int), 0) else (9, B.length)) = if (scTop B D K).ok then (0, 0) else (9, B.length)
    have hfin := hA.fin
    cases hok : (scTop B D K).ok with
    | true =>
      have hto : (scTop B D K).to = B.length := by
        obtain ⟨w, sw, N, hw, g, hst, hN, hfn, hto⟩ := top_run (D := D) (K := K) (B := B)
        have e := hto hok
        apply Classical.byContradiction
        intro hne
        have hlt : (scTop B D K).to < B.length := by omega
        have : ((scTop B D K).to, 2) ∈ scNotes B D K S := by unfold scNotes; rw [if_pos ⟨hok, hlt⟩]; simp
        rw [h] at this; cases this
      rw [hfin.2 ⟨hok, hto⟩]
    | false =>
      have : s.isFin = false := by
        cases hq : s.isFin with
        | false => rfl
        | true => have := (hfin.1 hq).1; rw [hok] at this; cases this
      rw [this]
  · rw [hf]
    have ⟨hlt, hk1⟩ := first_lt hk hl
    have hall : ∀ n ∈ scNotes B D K S, k.1 ≤ n.1 := fun n hn => by have := hl n hn; unfold Note.leq at this; omega
    obtain ⟨s, E1, E2, hA⟩ := ahead_of (D := D) (K := K) (S := S) (B := B) k.1 (by omega) hall
    have hkS : k.1 ≤ S := by
      apply Classical.byContradiction
      intro hlt'
      have : (S, 1) ∈ scNotes B D K S := by unfold scNotes; rw [if_pos (show S < B.length by omega)]; simp
      have := hall _ this
      simp only at this
      omega
    have := fr_svrd (S := S) hA.run rfl hkS
    rw [List.drop_zero] at this
    rw [this]
    have e : B.drop k.1 = B.getD k.1 0 :: B.drop (k.1 + 1) := by
      rw [List.drop_eq_getElem_cons hlt, List.getD_eq_getElem?_getD, List.getElem?_eq_getElem hlt]
      rfl
    rw [e, svrd_cons]
    obtain ⟨b1, b2⟩ := hA.bad hlt ⟨k, hk, rfl⟩
    dsimp only
    by_cases hS : S ≤ k.1
    · rw [if_pos hS]
      have h1 := hl _ (b1 hS)
      unfold Note.leq at h1
      simp only [Prod.mk.injEq, and_true]
      omega
    · rw [if_neg hS]
      obtain ⟨e, r, hx, hm, hle⟩ := b2 (by omega)
      rw [hx]
      dsimp only
      have h1 := hl _ hm
      have h2 := hle k hk rfl
      unfold Note.leq at h1
      simp only [Prod.mk.injEq, and_true]
      omega
/-- What follows plays no part where a byte is wrong; and what there is behind a whole item is wrong. -/
theorem svrd_append (b more : List Int) : ∀ (i : Nat) (s : AQ),
    (1 ≤ (svrd D K S i s b).1 ∧ (svrd D K S i s b).1 ≤ 7 → svrd D K S i s (b ++ more) = svrd D K S i s b) ∧
    ((svrd D K S i s b).1 = 0 → more ≠ [] → svrd D K S i s (b ++ more) = (1, i + b.length) ∨ svrd D K S i s (b ++ more) = (2, i + b.length)) ∧
    ((svrd D K S i s b).1 = 9 → svrd D K S i s (b ++ more) = (0, 0) ∨ i + b.length ≤ (svrd D K S i s (b ++ more)).2) := by
  induction b with
  | nil =>
    intro i s
    have e : svrd D K S i s [] = if s.isFin then (0, 0) else (9, i) := rfl
    rw [List.nil_append, e]
    cases hf : s.isFin with
    | true =>
      rw [if_pos rfl]
      refine ⟨fun h => by simp at h, fun _ hm => ?_, fun h => by simp at h⟩
      cases more with
      | nil => exact absurd rfl hm
      | cons c r =>
        have hs : s = ⟨s.st, .fin⟩ := by
          obtain ⟨st, k⟩ := s
          cases k <;> first | rfl | cases hf
        rw [svrd_cons]
        split
        · exact .inl rfl
        · right
          have : (fstep D K i s c).notes = [(i, 2)] := by rw [hs]; rfl
          rw [this]
          rfl
    | false =>
      rw [if_neg (by decide)]
      refine ⟨fun h => by simp at h, fun h => by simp at h, fun _ => ?_⟩
      rcases svrd_range (D := D) (K := K) (S := S) more i s with h | h | h
      · exact .inl h
      · rw [h]; right; simp
      · right; simp; omega
  | cons c r ih =>
    intro i s
    rw [List.cons_append, svrd_cons, svrd_cons]
    split
    · exact ⟨fun _ => rfl, fun h => by simp at h, fun h => by simp at h⟩
    · have hf := (fstep_notes (D := D) (K := K) i s c).2.1
      cases hx : (fstep D K i s c).notes with
      | cons n t =>
        have := hf n (by rw [hx]; exact List.mem_cons_self)
        dsimp only
        exact ⟨fun _ => rfl, fun h => by omega, fun h => by omega⟩
      | nil =>
        cases hy : (fstep D K i s c).next with
        | none => dsimp only; exact ⟨fun _ => rfl, fun h => by omega, fun h => by omega⟩
        | some s' =>
          dsimp only
          have := ih (i + 1) s'
          simp only [List.length_cons]
          rw [show i + (r.length + 1) = i + 1 + r.length by omega]
          exact this
end

/-- A head's reader that is well. -/
structure HInv (q : HQ) : Prop where
  wrong : q.wrong = 0
  arg0 : 0 ≤ q.arg
  arg1 : q.arg < 18446744073709551616
  left : q.opn = true → 1 ≤ q.left ∧ q.left ≤ 8
theorem HInv.zero : HInv hq0 := ⟨rfl, by decide, by decide, fun h => by cases h⟩
theorem hbad_cases (m i : Int) : hbad m i = 0 ∨ hbad m i = 2 ∨ hbad m i = 5 := by unfold hbad; split <;> (try split) <;> simp
theorem hwid_range (i : Int) : 0 ≤ hwid i ∧ hwid i ≤ 8 := by by_cases h1 : i = 24 <;> by_cases h2 : i = 25 <;> by_cases h3 : i = 26 <;> by_cases h4 : i = 27 <;> simp [hwid, h1, h2, h3, h4]
/-- What a byte comes to for a reader that is well. -/
theorem HInv.mid {q : HQ} (h : HInv q) {c : Int} (_ : 0 ≤ c) (_ : c < 256) :
    ((hmid q c).wrong = 0 ∨ (hmid q c).wrong = 2 ∨ (hmid q c).wrong = 5) ∧ 0 ≤ (hmid q c).arg ∧ (hmid q c).arg < 18446744073709551616 ∧ (hmid q c).opn = true ∧ 0 ≤ (hmid q c).left ∧ (hmid q c).left ≤ 8 := by
  unfold hmid
  rw [if_neg (by rw [h.wrong]; simp)]
  split
  · next ho =>
    have hl := h.left ho
    have hw := h.wrong
    unfold hfollow
    dsimp only
    have := Int.emod_nonneg (q.arg * 256 + c) (show (18446744073709551616 : Int) ≠ 0 by decide)
    have := Int.emod_lt_of_pos (q.arg * 256 + c) (show (0 : Int) < 18446744073709551616 by decide)
    generalize (q.arg * 256 + c) % 18446744073709551616 = y at *
    refine ⟨?_, by omega, by omega, ho, by omega, by omega⟩
    split
    · exact .inr (.inl rfl)
    · exact .inl hw
  · unfold hbegin hbeg
    have hb := hbad_cases (c / 32) (c % 32)
    have hw := hwid_range (c % 32)
    split
    · exact ⟨hb, by simp, by simp, rfl, by simp, by simp⟩
    · split
      · exact ⟨.inl rfl, by dsimp only; omega, by dsimp only; omega, rfl, by simp, by simp⟩
      · exact ⟨.inl rfl, by simp, by simp, rfl, hw.1, hw.2⟩
theorem HInv.next {q : HQ} (h : HInv q) {c : Int} (h0 : 0 ≤ c) (h1 : c < 256) (hd : hdone q c = false) (he : herr q c = 0) : HInv (hstep q c) ∧ (hstep q c).opn = true := by
  obtain ⟨k1, k2, k3, k4, k5, k6⟩ := h.mid h0 h1
  unfold hdone at hd
  have hm : (hmid q c).more := by
    apply Classical.byContradiction
    intro hn
    rw [decide_eq_false hn] at hd
    cases hd
  unfold herr at he
  rw [if_pos hm] at he
  unfold hstep
  rw [if_pos hm]
  refine ⟨⟨he, k2, k3, fun _ => ⟨?_, k6⟩⟩, k4⟩
  rcases hm with hm | hm
  · exact absurd he hm
  · omega
theorem HInv.done {q : HQ} (h : HInv q) {c : Int} (h0 : 0 ≤ c) (h1 : c < 256) (hd : hdone q c = true) : HInv (hstep q c) ∧ (hstep q c).opn = false := by
  obtain ⟨k1, k2, k3, k4, k5, k6⟩ := h.mid h0 h1
  unfold hdone at hd
  have hm : ¬ (hmid q c).more := by
    intro hn
    rw [decide_eq_true hn] at hd
    cases hd
  unfold hstep
  rw [if_neg hm]
  refine ⟨⟨?_, k2, k3, fun h => by cases h⟩, rfl⟩
  apply Classical.byContradiction
  intro hn
  exact hm (.inl hn)
theorem HInv.err {q : HQ} (h : HInv q) {c : Int} (h0 : 0 ≤ c) (h1 : c < 256) : herr q c = 0 ∨ herr q c = 2 ∨ herr q c = 5 := by
  obtain ⟨k1, _⟩ := h.mid h0 h1
  unfold herr
  split
  · exact k1
  · split <;> simp

structure FrOk (K : Nat) (f : Fr) : Prop where
  kind : f.kind = 4 ∨ f.kind = 5 ∨ f.kind = 6
  left0 : 1 ≤ f.left
  left1 : f.left < 18446744073709551616
  half : f.half = true → f.kind = 5
  cur : f.cur.length ≤ K
  last : f.last.length ≤ K
  bcur : ByteL f.cur
  blast : ByteL f.last
/-- The machine's invariant, as long as nothing is wrong. -/
structure AOk (D K : Nat) (s : AQ) : Prop where
  len : s.st.length ≤ D
  frs : ∀ f ∈ s.st, FrOk K f
  ctl : (∃ q, s.ctl = .head q ∧ HInv q ∧ (q.opn = true → s.st.length < D)) ∨ (∃ n t u, s.ctl = .text n t u ∧ 1 ≤ n ∧ n < 18446744073709551616 ∧ u.wr = false ∧ s.st.length < D) ∨ (s.ctl = .fin ∧ s.st = [])
theorem AOk.zero (D K : Nat) : AOk D K aq0 := ⟨Nat.zero_le _, fun f h => (by cases h), .inl ⟨hq0, rfl, .zero, fun h => by cases h⟩⟩
section
variable {D K : Nat}
theorem FrOk.feeds {f : Fr} {c : Int} (h : FrOk K f) (hf : f.full K = false) (h0 : 0 ≤ c) (h1 : c < 256) : FrOk K (f.feeds [c]) := by
  by_cases hw : f.waits = true
  · have e : f.feeds [c] = { f with cur := f.cur ++ [c] } := if_pos hw
    unfold Fr.full at hf
    rw [hw, Bool.true_and] at hf
    have hl := h.cur
    have hne : f.cur.length ≠ K := by simpa using hf
    rw [e]
    exact ⟨h.kind, h.left0, h.left1, h.half, by simp; omega, h.last, fun x hx => by
      rcases List.mem_append.1 hx with hx | hx
      · exact h.bcur x hx
      · rw [List.mem_singleton.1 hx]; exact ⟨h0, h1⟩, h.blast⟩
  · rw [show f.feeds [c] = f from if_neg hw]; exact h
theorem FrOk.keyed {f : Fr} (h : FrOk K f) (hw : f.waits = true) : FrOk K f.keyed := by
  unfold Fr.waits at hw
  simp at hw
  exact ⟨h.kind, h.left0, h.left1, fun _ => hw.1, Nat.zero_le _, h.cur, fun x hx => (by cases hx), h.bcur⟩
theorem FrOk.less {f : Fr} (h : FrOk K f) (hl : f.left ≠ 1) : FrOk K f.less :=
  ⟨h.kind, by show 1 ≤ f.left - 1; have := h.left0; omega, by show f.left - 1 < _; have := h.left1; omega, fun h' => (by cases h'), h.cur, h.last, h.bcur, h.blast⟩
theorem AOk.settle {i : Nat} (st : List Fr) (hl : st.length ≤ D) (hf : ∀ f ∈ st, FrOk K f) : AOk D K (settle i st).1 := by
  induction st with
  | nil => exact ⟨Nat.zero_le _, fun f h => (by cases h), .inr (.inr ⟨rfl, rfl⟩)⟩
  | cons f st ih =>
    have hf0 := hf f List.mem_cons_self
    have hf' : ∀ g ∈ st, FrOk K g := fun g hg => hf g (List.mem_cons_of_mem _ hg)
    simp only [List.length_cons] at hl
    unfold Go.Proofs.Ytchhbcmkhbfpoaa.settle
    split
    · next hw => exact ⟨by simp only [begins, List.length_cons]; exact hl, fun g hg => (by
        rcases List.mem_cons.1 hg with rfl | hg
        · exact hf0.keyed hw
        · exact hf' g hg), .inl ⟨hq0, rfl, .zero, fun h => by cases h⟩⟩
    · split
      · exact ih (by omega) hf'
      · next hl1 => exact ⟨by simp only [begins, List.length_cons]; exact hl, fun g hg => (by
          rcases List.mem_cons.1 hg with rfl | hg
          · exact hf0.less hl1
          · exact hf' g hg), .inl ⟨hq0, rfl, .zero, fun h => by cases h⟩⟩
theorem any_full {st : List Fr} (h : st.any (Fr.full K) = false) : ∀ f ∈ st, f.full K = false := fun f hf => by
  have := List.any_eq_false.1 h f hf
  simpa using this
theorem ite_nil {P : Prop} [Decidable P] {x : Note} (h : (if P then [x] else []) = []) : ¬ P := fun hp => by rw [if_pos hp] at h; cases h
theorem AOk.bstep {i : Nat} {s : AQ} {c : Int} (h : AOk D K s) (h0 : 0 ≤ c) (h1 : c < 256) (hn : (bstep D K i s c).notes = []) :
    ∃ s', (bstep D K i s c).next = some s' ∧ s'.st.length ≤ D ∧ (∀ f ∈ s'.st, FrOk K f) ∧ (s'.isEnded = false → AOk D K s') := by
  obtain ⟨st, k⟩ := s
  obtain ⟨hl, hf, hc⟩ := h
  dsimp only at hl hf hc
  rcases hc with ⟨q, rfl, hq, ho⟩ | ⟨n, t, u, rfl, hn1, hn2, hu, hlt⟩ | ⟨rfl, rfl⟩
  · have hb : (Go.Proofs.Ytchhbcmkhbfpoaa.bstep D K i ⟨st, .head q⟩ c) = ⟨if hdone q c then some (enter (st.map (Fr.feeds [c])) (hstep q c).major (hstep q c).arg) else if herr q c = 0 then some ⟨st.map (Fr.feeds [c]), .head (hstep q c)⟩ else none,
      hnotes D K i st q c, if hdone q c then [⟨1, (hstep q c).major, (hstep q c).width, (hstep q c).arg, 0, st.length + 1, i⟩] else []⟩ := rfl
    rw [hb] at hn ⊢
    dsimp only at hn ⊢
    unfold hnotes at hn
    simp only [List.append_eq_nil_iff] at hn
    obtain ⟨n2, n3, n4, n5⟩ := hn
    have n2 := ite_nil n2
    have n3 := ite_nil n3
    have n4 := any_full (by simpa using ite_nil n4)
    have n5 := ite_nil n5
    have he : herr q c = 0 := by rcases hq.err h0 h1 with h | h | h; exact h; exact absurd h n2; exact absurd h n5
    have hlt : st.length < D := by
      cases hop : q.opn with
      | true => exact ho hop
      | false => simp [hop] at n3; omega
    have hff : ∀ f ∈ st.map (Fr.feeds [c]), FrOk K f := fun f hfm => by
      obtain ⟨g, hg, rfl⟩ := List.mem_map.1 hfm
      exact (hf g hg).feeds (n4 g hg) h0 h1
    have hml : (st.map (Fr.feeds [c])).length = st.length := List.length_map _
    cases hd : hdone q c with
    | false =>
      rw [if_neg (by decide), if_pos he]
      obtain ⟨k1, k2⟩ := hq.next h0 h1 hd he
      exact ⟨_, rfl, by dsimp only; omega, hff, fun _ => ⟨by dsimp only; omega, hff, .inl ⟨_, rfl, k1, fun _ => by dsimp only; omega⟩⟩⟩
    | true =>
      rw [if_pos rfl]
      obtain ⟨k1, k2⟩ := hq.done h0 h1 hd
      generalize st.map (Fr.feeds [c]) = st' at *
      generalize hstep q c = q' at *
      have hpush : ∀ f, FrOk K f → AOk D K (begins (f :: st')) := fun f hf1 => ⟨by simp only [begins, List.length_cons]; omega, fun g hg => (by
        rcases List.mem_cons.1 hg with rfl | hg
        · exact hf1
        · exact hff g hg), .inl ⟨hq0, rfl, .zero, fun h => by cases h⟩⟩
      have hnb : ByteL ([] : List Int) := fun x hx => by cases hx
      refine ⟨_, rfl, ?_⟩
      unfold enter
      split
      · split
        · exact ⟨by dsimp only; omega, hff, fun h => by cases h⟩
        · next ha => exact ⟨by dsimp only; omega, hff, fun _ => ⟨by dsimp only; omega, hff, .inr (.inl ⟨_, _, _, rfl, by have := k1.arg0; omega, k1.arg1, rfl, by dsimp only; omega⟩)⟩⟩
      · split
        · next hm => split
                     · exact ⟨by dsimp only; omega, hff, fun h => by cases h⟩
                     · next ha =>
                       have := hpush ⟨q'.major, q'.arg, false, [], [], false⟩ ⟨by dsimp only; omega, by have := k1.arg0; dsimp only; omega, k1.arg1, fun h => (by cases h), Nat.zero_le _, Nat.zero_le _, hnb, hnb⟩
                       exact ⟨this.len, this.frs, fun _ => this⟩
        · split
          · have := hpush ⟨6, 1, false, [], [], false⟩ ⟨.inr (.inr rfl), by decide, by decide, fun h => (by cases h), Nat.zero_le _, Nat.zero_le _, hnb, hnb⟩
            exact ⟨this.len, this.frs, fun _ => this⟩
          · exact ⟨by dsimp only; omega, hff, fun h => by cases h⟩
  · have hb : (Go.Proofs.Ytchhbcmkhbfpoaa.bstep D K i ⟨st, .text n t u⟩ c) = ⟨some (if n = 1 then ⟨st.map (Fr.feeds [c]), .ended⟩ else ⟨st.map (Fr.feeds [c]), .text (n - 1) t (if t then ustep u c else u)⟩), tnotes K i st n t u c, [⟨2, 0, 0, 0, c, st.length + 1, i⟩]⟩ := rfl
    rw [hb] at hn ⊢
    dsimp only at hn ⊢
    unfold tnotes at hn
    simp only [List.append_eq_nil_iff] at hn
    obtain ⟨n4, n6⟩ := hn
    have n4 := any_full (by simpa using ite_nil n4)
    have n6 := ite_nil n6
    have hff : ∀ f ∈ st.map (Fr.feeds [c]), FrOk K f := fun f hfm => by
      obtain ⟨g, hg, rfl⟩ := List.mem_map.1 hfm
      exact (hf g hg).feeds (n4 g hg) h0 h1
    have hml : (st.map (Fr.feeds [c])).length = st.length := List.length_map _
    refine ⟨_, rfl, ?_⟩
    split
    · exact ⟨by dsimp only; omega, hff, fun h => by cases h⟩
    · refine ⟨by dsimp only; omega, hff, fun _ => ⟨by dsimp only; omega, hff, .inr (.inl ⟨_, _, _, rfl, by omega, by omega, ?_, by dsimp only; omega⟩)⟩⟩
      cases t with
      | false => exact hu
      | true =>
        rw [if_pos rfl]
        cases hw : (ustep u c).wr with
        | false => rfl
        | true => exact absurd (by simp [hu, hw]) n6
  · cases hn
theorem AOk.step {i : Nat} {s : AQ} {c : Int} (h : AOk D K s) (h0 : 0 ≤ c) (h1 : c < 256) (hn : (fstep D K i s c).notes = []) : ∃ s', (fstep D K i s c).next = some s' ∧ AOk D K s' := by
  unfold fstep at hn ⊢
  cases hx : (Go.Proofs.Ytchhbcmkhbfpoaa.bstep D K i s c).next with
  | none =>
    rw [hx] at hn
    obtain ⟨s', h', _⟩ := h.bstep (i := i) h0 h1 hn
    rw [hx] at h'; cases h'
  | some s' =>
    rw [hx] at hn
    dsimp only at hn ⊢
    cases he : s'.isEnded with
    | true =>
      rw [he, if_pos rfl] at hn
      rw [if_pos rfl]
      dsimp only at hn ⊢
      obtain ⟨s2, h', h2, h3, _⟩ := h.bstep (i := i) h0 h1 (List.append_eq_nil_iff.1 hn).1
      rw [hx] at h'; injection h' with h'; subst h'
      exact ⟨_, rfl, AOk.settle _ h2 h3⟩
    | false =>
      rw [he, if_neg (by decide)] at hn
      rw [if_neg (by decide)]
      obtain ⟨s2, h', _, _, h4⟩ := h.bstep (i := i) h0 h1 hn
      have h5 := h'
      rw [hx] at h5; injection h5 with h5; subst h5
      exact ⟨s', h', h4 he⟩
end
end Go.Proofs.Ytchhbcmkhbfpoaa
