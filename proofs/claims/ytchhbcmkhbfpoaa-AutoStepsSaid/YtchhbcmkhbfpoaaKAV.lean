/- Package auto: the machine goes through a whole item as the scan does. -/
import Derived.Test.YtchhbcmkhbfpoaaKAU
namespace Go.Proofs.Ytchhbcmkhbfpoaa
theorem hread_arg (L : List Int) : 0 ≤ (hread L).arg := by
  unfold hread
  have hb : ∀ W, 0 ≤ harg L W := fun W => (big_range 18446744073709551616 (pad (L.drop 1) W.toNat) (by decide)).1
  repeat' split
  all_goals first
    | exact Int.le_refl 0
    | exact hb _
    | (show 0 ≤ L.getD 0 0 % 32; omega)
/-- Is the stack one in which a key, or no key, begins? -/
def Kst (key : Bool) (st : List Fr) : Prop := (key = true → ∃ f st', st = f :: st' ∧ f.waits = true ∧ f.cur = []) ∧ (key = false → ∀ f st', st = f :: st' → f.waits = false)
section
variable {D K : Nat} {B : List Int}
theorem body_sim (lim : Nat) (item : Nat → Nat → Bool → Sc) (hitem : ∀ a st key, lim ≤ a → a ≤ B.length → Kst key st → ItemSim D K B a st key (item a (st.length + 1) key))
    (a : Nat) (st : List Fr) (m g : Int) (hlim : lim ≤ a) (ha : a ≤ B.length) (hg : 0 ≤ g) :
    Sim D K B a (enter st m g) st (scBody B item (st.length + 1) m g a) (scBody B item (st.length + 1) m g a).evs ⟨st.map (Fr.feeds (slice B a (scBody B item (st.length + 1) m g a).to)), .ended⟩ := by
  have hrefl : ∀ s, s = (⟨st, .ended⟩ : AQ) → Sim D K B a s st ⟨[], [], a, true⟩ [] ⟨st.map (Fr.feeds (slice B a a)), .ended⟩ := by
    rintro s rfl
    rw [slice_nil, map_feeds_nil]
    exact Sim.refl ha
  have hfalse : ∀ a st', lim ≤ a → a ≤ B.length → st'.length = st.length + 1 → (∀ f st'', st' = f :: st'' → f.waits = false) → ItemSim D K B a st' false (item a (st.length + 1 + 1) false) := fun a st' h1 h2 h3 h4 => by
    rw [← h3]; exact hitem a st' false h1 h2 ⟨fun h => (by cases h), fun _ => h4⟩
  have htrue : ∀ a st', lim ≤ a → a ≤ B.length → st'.length = st.length + 1 → (∃ f st'', st' = f :: st'' ∧ f.waits = true ∧ f.cur = []) → ItemSim D K B a st' true (item a (st.length + 1 + 1) true) := fun a st' h1 h2 h3 h4 => by
    rw [← h3]; exact hitem a st' true h1 h2 ⟨fun _ => h4, fun h => (by cases h)⟩
  by_cases h23 : m = 2 ∨ m = 3
  · have e1 : scBody B item (st.length + 1) m g a = ⟨if m = 3 then unotes (decide (g ≤ ((B.length - a : Nat) : Int))) uq0 (slice B a (a + (if decide (g ≤ ((B.length - a : Nat) : Int)) then g.toNat else B.length - a))) a else [],
        bevs (st.length + 1) (slice B a (a + (if decide (g ≤ ((B.length - a : Nat) : Int)) then g.toNat else B.length - a))) a, a + (if decide (g ≤ ((B.length - a : Nat) : Int)) then g.toNat else B.length - a), decide (g ≤ ((B.length - a : Nat) : Int))⟩ := by
      unfold scBody
      rw [if_pos h23]
    rw [e1]
    by_cases h0 : g = 0
    · subst h0
      rw [decide_eq_true (by omega : (0 : Int) ≤ ((B.length - a : Nat) : Int)), if_pos rfl, show a + (0 : Int).toNat = a from rfl, slice_nil]
      have := hrefl (enter st m 0) (by unfold enter; rw [if_pos h23, if_pos rfl])
      rw [slice_nil] at this
      have e2 : (if m = 3 then unotes true uq0 [] a else []) = [] := by split <;> rfl
      rw [e2]
      exact this
    · have hen : enter st m g = ⟨st, .text g (m == 3) uq0⟩ := by unfold enter; rw [if_pos h23, if_neg h0]
      rw [hen]
      cases hwh : decide (g ≤ ((B.length - a : Nat) : Int)) with
      | true =>
        have := of_decide_eq_true hwh
        rw [if_pos rfl]
        obtain ⟨N, s', hgo, hs', hN⟩ := text_run D K B (m == 3) true g.toNat a g uq0 st (by omega) (by rw [if_pos rfl]; omega) (by omega) (fun _ => by omega)
        rw [if_pos rfl] at hs'
        subst hs'
        refine ⟨fun _ => ⟨Nat.le_add_right _ _, by show a + g.toNat ≤ _; omega, N, hgo, fun n => ?_⟩, fun h => by cases h⟩
        rw [hN]
        by_cases h3 : m = 3
        · simp [h3]
        · simp [h3]
      | false =>
        have := of_decide_eq_false hwh
        rw [if_neg (show ¬ (false = true) by decide)]
        obtain ⟨N, s', hgo, hs', hN⟩ := text_run D K B (m == 3) false (B.length - a) a g uq0 st (by omega) (by rw [if_neg (by decide)]; omega) (by omega) (fun h => by cases h)
        rw [if_neg (by decide)] at hs'
        obtain ⟨n', u', rfl⟩ := hs'
        refine Sim.stop rfl ⟨a + (B.length - a), _, N, by omega, by omega, hgo, .inl ⟨by omega, .inr ⟨_, _, _, rfl⟩⟩, fun n _ => ?_⟩
        unfold hnts
        rw [if_neg (by omega), List.append_nil, hN, show a + (B.length - a) = B.length by omega]
        by_cases h3 : m = 3
        · simp [h3]
        · simp [h3]
  by_cases h46 : m = 4 ∨ m = 6
  · have e1 : scBody B item (st.length + 1) m g a = scMany (fun a => item a (st.length + 1 + 1) false) (if m = 6 then 1 else g.toNat) a := by unfold scBody; rw [if_neg h23, if_pos h46]
    rw [e1]
    by_cases h6 : m = 6
    · subst h6
      rw [if_pos rfl]
      exact many_sim lim _ (st.length + 1) hfalse 0 a ⟨6, 1, false, [], [], false⟩ st (by decide) rfl hlim ha rfl
    · obtain rfl : m = 4 := by omega
      rw [if_neg (by decide)]
      by_cases h0 : g = 0
      · subst h0
        exact hrefl _ rfl
      · have hen : enter st 4 g = begins (⟨4, g, false, [], [], false⟩ :: st) := by unfold enter; rw [if_neg (by decide), if_pos (by decide), if_neg h0]
        rw [hen, show g.toNat = (g.toNat - 1) + 1 by omega]
        exact many_sim lim _ (st.length + 1) hfalse (g.toNat - 1) a ⟨4, g, false, [], [], false⟩ st (by show (4 : Int) ≠ 5; decide) (by show g = _; omega) hlim ha rfl
  by_cases h5 : m = 5
  · subst h5
    have e1 : scBody B item (st.length + 1) 5 g a = scPairs B (fun a => item a (st.length + 1 + 1) true) (fun a => item a (st.length + 1 + 1) false) g.toNat true [] a := by unfold scBody; rw [if_neg (by decide), if_neg (by decide), if_pos rfl]
    rw [e1]
    by_cases h0 : g = 0
    · subst h0
      exact hrefl _ rfl
    · have hen : enter st 5 g = begins (⟨5, g, false, [], [], false⟩ :: st) := by unfold enter; rw [if_neg (by decide), if_pos (by decide), if_neg h0]
      rw [hen, show g.toNat = (g.toNat - 1) + 1 by omega]
      exact pairs_sim lim _ _ (st.length + 1) htrue hfalse (g.toNat - 1) a true [] ⟨5, g, false, [], [], false⟩ st rfl rfl rfl (by show g = _; omega) rfl (fun h => by cases h) hlim ha rfl
  · have e1 : scBody B item (st.length + 1) m g a = ⟨[], [], a, true⟩ := by unfold scBody; rw [if_neg h23, if_neg h46, if_neg h5]
    rw [e1]
    exact hrefl _ (by unfold enter; rw [if_neg h23, if_neg (by omega), if_neg (by omega)])

def dnl (D : Nat) (B : List Int) (st : List Fr) (a : Nat) : List Note := if D < st.length + 1 ∧ a < B.length then [(a, 3)] else []
theorem mem_dnl {st a n} : n ∈ dnl D B st a ↔ Dn D B st a n := by unfold dnl Dn; rw [mem_ite, and_assoc]
theorem inner_sim (item : Nat → Nat → Bool → Sc) (a : Nat) (st : List Fr) (hitem : ∀ a' st key, a < a' → a' ≤ B.length → Kst key st → ItemSim D K B a' st key (item a' (st.length + 1) key)) (ha : a ≤ B.length) :
    Sim D K B a (begins st) st ⟨dnl D B st a ++ (scInner B item a (st.length + 1)).notes, (scInner B item a (st.length + 1)).evs, (scInner B item a (st.length + 1)).to, (scInner B item a (st.length + 1)).ok⟩ (scInner B item a (st.length + 1)).evs
      ⟨st.map (Fr.feeds (slice B a (scInner B item a (st.length + 1)).to)), .ended⟩ ∧ ((scInner B item a (st.length + 1)).ok = true → a < (scInner B item a (st.length + 1)).to) := by
  have H := head_run D K B a _ 0 hq0 st rfl (Nat.zero_le _) ha (.inl ⟨rfl, rfl⟩)
  have harg0 := hread_arg (B.drop a)
  unfold HeadRun at H
  unfold scInner
  generalize hread (B.drop a) = r at *
  rw [Nat.add_zero] at H
  dsimp only
  rcases H with ⟨h9, q', N, hg, hN⟩ | ⟨h0, h25, p, q', N, hp, _, hap, hg, hnx, hne, hN⟩ | ⟨m, hm, hkm, ham, he2, N, hg, hN⟩
  · rw [if_pos (.inr h9)]
    refine ⟨Sim.stop rfl ⟨B.length, _, N, ha, Nat.le_refl _, hg, .inl ⟨rfl, .inl ⟨_, rfl⟩⟩, fun n _ => ?_⟩, fun h => by cases h⟩
    unfold hnts
    rw [if_neg (by omega), List.append_nil, List.append_nil, hN, mem_dnl]
    simp
  · rw [if_neg (by omega), if_pos h0, if_neg (by omega), hp]
    refine ⟨Sim.stop rfl ⟨a + p, _, N, by omega, by omega, hg, .inr ⟨hap, ⟨_, rfl⟩, hnx, hne⟩, fun n hn => ?_⟩, fun h => by cases h⟩
    have hn : n.1 ≤ a + p := by omega
    unfold hnts
    rw [if_pos hap, hN]
    show _ ↔ n ∈ dnl D B st a ++ [(a + p, r.e)] ∨ _
    rw [List.mem_append, mem_dnl, List.mem_singleton, or_assoc]
    have : Kn K st a (a + p + 1) n ↔ Kn K st a B.length n := by
      unfold Kn
      constructor
      · rintro ⟨h1, h2, h3, h4⟩; exact ⟨h1, h2, by omega, h4⟩
      · rintro ⟨h1, h2, h3, h4⟩; exact ⟨h1, h2, by omega, h4⟩
    rw [this]
    simp
  · have hmt : r.many.toNat = m := by omega
    rw [if_neg (by rcases he2 with h | h <;> omega), if_neg (by omega), hmt]
    have hb := body_sim (D := D) (K := K) (B := B) (a + 1) item (fun a' st key h1 h2 h3 => hitem a' st key (by omega) h2 h3) (a + m) (st.map (Fr.feeds (slice B a (a + m)))) r.major r.arg (by omega) ham harg0
    rw [List.length_map] at hb
    have A := Sim.after (P1 := dnl D B st a ++ (if r.e = 0 then [] else [(a + r.place.toNat, r.e)])) (show a ≤ a + m by omega) ham hg (fun n => ?_) hb
    · dsimp only
      rw [List.append_assoc] at A
      refine ⟨⟨fun h => ?_, A.no⟩, fun h => ?_⟩
      · obtain ⟨k1, k2, N', g', hN'⟩ := A.ok h
        refine ⟨k1, k2, N', ?_, hN'⟩
        rw [map_feeds, slice_add (by omega) (hb.ok h).1] at g'
        exact g'
      · have := (hb.ok h).1
        omega
    · rw [hN, List.mem_append, mem_dnl, or_assoc]
      simp only [true_and]
      rcases he2 with h | ⟨h, h'⟩
      · rw [if_pos h]
        simp [h]
      · rw [if_neg (by omega), List.mem_singleton, show a + r.place.toNat = a + m - 1 by omega]
        simp [h]
theorem item_sim (f : Nat) : ∀ (a : Nat) (st : List Fr) (key : Bool), B.length - a < f → a ≤ B.length → Kst key st → ItemSim D K B a st key (scItem B D K f a (st.length + 1) key) := by
  induction f with
  | zero => intro a st key h; omega
  | succ f ih =>
    intro a st key hf ha hk
    obtain ⟨hS, hto⟩ := inner_sim (D := D) (K := K) (B := B) (scItem B D K f) a st (fun a' st key h1 h2 h3 => ih a' st key (by omega) h2 h3) ha
    have e : scItem B D K (f + 1) a (st.length + 1) key = ⟨dnl D B st a ++ ((scInner B (scItem B D K f) a (st.length + 1)).notes ++ (if key ∧ K < (if (scInner B (scItem B D K f) a (st.length + 1)).ok then (scInner B (scItem B D K f) a (st.length + 1)).to else B.length) - a then [(a + K, 4)] else [])),
      (scInner B (scItem B D K f) a (st.length + 1)).evs ++ (if (scInner B (scItem B D K f) a (st.length + 1)).ok then [endEv key (st.length + 1) (scInner B (scItem B D K f) a (st.length + 1)).to] else []), (scInner B (scItem B D K f) a (st.length + 1)).to, (scInner B (scItem B D K f) a (st.length + 1)).ok⟩ := rfl
    rw [e]
    generalize scInner B (scItem B D K f) a (st.length + 1) = r at *
    refine ⟨r.evs, fun h => ?_, Sim.congr hS ?_ rfl rfl (fun n => ?_), fun h1 h2 => ?_⟩
    · dsimp only at h ⊢
      rw [h]
      rfl
    · cases hok : r.ok with
      | true => exact .inr rfl
      | false => left; dsimp only; rw [if_neg (by decide), List.append_nil]
    · dsimp only
      simp only [List.mem_append, or_assoc, mem_ite]
      constructor
      · rintro (h | h | ⟨⟨h1, h2⟩, h3⟩ | h)
        · exact .inl h
        · exact .inr (.inl h)
        · obtain ⟨f1, st', rfl, hw, hc⟩ := hk.1 h1
          refine .inr (.inr ⟨by rw [h3], by rw [h3]; exact Nat.le_add_right _ _, by rw [h3]; show a + K < _; omega, f1, List.mem_cons_self, hw, by rw [hc, h3]; show 0 + (a + K - a) = K; omega⟩)
        · exact .inr (.inr h)
      · rintro (h | h | h)
        · exact .inl h
        · exact .inr (.inl h)
        · exact .inr (.inr (.inr h))
    · dsimp only at h2 ⊢
      rw [if_pos ⟨h1, h2⟩]
      exact List.mem_append_right _ (List.mem_append_right _ (List.mem_singleton.2 rfl))
end
end Go.Proofs.Ytchhbcmkhbfpoaa

/- Package auto: byte by byte the machine tells what the scan of the whole notes. -/
namespace Go.Proofs.Ytchhbcmkhbfpoaa

/-- The machine byte by byte. -/
inductive FR (D K : Nat) (B : List Int) : Nat → AQ → Nat → AQ → List Note → List AEv → Prop
  | refl (i s) : FR D K B i s i s [] []
  | cons {i s s' j s'' N E} (hi : i < B.length) (h : (fstep D K i s (B.getD i 0)).next = some s') (g : FR D K B (i + 1) s' j s'' N E) :
      FR D K B i s j s'' ((fstep D K i s (B.getD i 0)).notes ++ N) ((fstep D K i s (B.getD i 0)).evs ++ E)
section
variable {D K : Nat} {B : List Int}
theorem FR.one {i s s'} (hi : i < B.length) (h : (fstep D K i s (B.getD i 0)).next = some s') : FR D K B i s (i + 1) s' (fstep D K i s (B.getD i 0)).notes (fstep D K i s (B.getD i 0)).evs := by
  have := FR.cons hi h (.refl _ _)
  rwa [List.append_nil, List.append_nil] at this
theorem FR.trans {i s j s' k s'' N E N' E'} (h : FR D K B i s j s' N E) (h' : FR D K B j s' k s'' N' E') : FR D K B i s k s'' (N ++ N') (E ++ E') := by
  induction h with
  | refl => exact h'
  | cons hi hn _ ih => rw [List.append_assoc, List.append_assoc]; exact .cons hi hn (ih h')
theorem FR.le {i s j s' N E} (h : FR D K B i s j s' N E) : i ≤ j := by induction h <;> omega
theorem FR.le_len {i s j s' N E} (h : FR D K B i s j s' N E) (hi : i ≤ B.length) : j ≤ B.length := by
  induction h with
  | refl => exact hi
  | cons h1 _ _ ih => exact ih h1
theorem FR.split {i s j s' N E} (h : FR D K B i s j s' N E) : ∀ m, i ≤ m → m ≤ j → ∃ t N1 E1 N2 E2, FR D K B i s m t N1 E1 ∧ FR D K B m t j s' N2 E2 ∧ N = N1 ++ N2 ∧ E = E1 ++ E2 := by
  induction h with
  | refl i s => intro m h1 h2; obtain rfl : m = i := by omega
                exact ⟨s, [], [], [], [], .refl _ _, .refl _ _, rfl, rfl⟩
  | @cons i s s' j s'' N E hi hn g ih =>
    intro m h1 h2
    by_cases hm : m = i
    · subst hm
      exact ⟨_, [], [], _, _, .refl _ _, .cons hi hn g, rfl, rfl⟩
    · obtain ⟨t, N1, E1, N2, E2, g1, g2, rfl, rfl⟩ := ih m (by omega) h2
      exact ⟨t, _, _, N2, E2, .cons hi hn g1, g2, (List.append_assoc _ _ _).symm, (List.append_assoc _ _ _).symm⟩

theorem settle_place (i : Nat) (st : List Fr) : (∀ n ∈ (settle (i + 1) st).2.1, n = (i, 7)) ∧ (∀ e ∈ (settle (i + 1) st).2.2, e.pl = i) := by
  induction st with
  | nil => exact ⟨fun n h => (by cases h), fun e h => (by cases h with | head => rfl | tail _ h => cases h)⟩
  | cons f st ih =>
    unfold settle
    split
    · refine ⟨fun n h => ?_, fun e h => ?_⟩
      · unfold onotes at h
        dsimp only at h
        split at h
        · exact List.mem_singleton.1 h
        · cases h
      · rw [List.mem_singleton.1 h]; rfl
    · split
      · refine ⟨ih.1, fun e h => ?_⟩
        rcases List.mem_cons.1 h with rfl | h
        · rfl
        · exact ih.2 e h
      · exact ⟨fun n h => (by cases h), fun e h => (by rw [List.mem_singleton.1 h]; rfl)⟩
theorem settle_set (i : Nat) (st : List Fr) : (settle i st).1.isEnded = false := by
  induction st with
  | nil => rfl
  | cons f st ih =>
    unfold settle
    split
    · rfl
    · split
      · exact ih
      · rfl
theorem settle_one (i : Nat) (st : List Fr) : (settle i st).2.1.length ≤ 1 := by
  induction st with
  | nil => exact Nat.zero_le _
  | cons f st ih =>
    unfold settle
    split
    · unfold onotes
      dsimp only
      split <;> simp
    · split
      · exact ih
      · exact Nat.zero_le _
/-- What is noted at a byte, in the order of the numbers. -/
theorem bstep_notes (i : Nat) (s : AQ) (c : Int) : (bstep D K i s c).notes.Pairwise (fun a b => a.2 ≤ b.2) ∧ (∀ n ∈ (bstep D K i s c).notes, n.1 = i ∧ 2 ≤ n.2 ∧ n.2 ≤ 6) ∧ (∀ e ∈ (bstep D K i s c).evs, e.pl = i) := by
  have hp : ∀ {x n : Note} {P : Prop} [Decidable P], n ∈ (if P then [x] else []) → n = x := fun h => (mem_ite.1 h).2
  have h1 : ∀ {x : Note} {P : Prop} [Decidable P], (if P then [x] else []).Pairwise (fun a b => a.2 ≤ b.2) := by intro x P _; split <;> simp
  unfold bstep
  split
  · dsimp only
    refine ⟨?_, ?_, ?_⟩
    · unfold hnotes
      rw [List.pairwise_append, List.pairwise_append, List.pairwise_append]
      refine ⟨h1, ⟨h1, ⟨h1, h1, ?_⟩, ?_⟩, ?_⟩
      · intro a ha b hb
        rw [hp ha, hp hb]; simp
      · intro a ha b hb
        rw [hp ha]
        rcases List.mem_append.1 hb with hb | hb <;> rw [hp hb] <;> simp
      · intro a ha b hb
        rw [hp ha]
        rcases List.mem_append.1 hb with hb | hb
        · rw [hp hb]; simp
        · rcases List.mem_append.1 hb with hb | hb <;> rw [hp hb] <;> simp
    · intro n hn
      rcases mem_hnotes.1 hn with ⟨_, h⟩ | ⟨_, _, h⟩ | h | ⟨_, h⟩
      · rw [h]; exact ⟨rfl, by simp, by simp⟩
      · rw [h]; exact ⟨rfl, by simp, by simp⟩
      · obtain ⟨h4, h5, h6, _⟩ := h
        rw [h4]
        exact ⟨by omega, by simp, by simp⟩
      · rw [h]; exact ⟨rfl, by simp, by simp⟩
    · intro e he
      split at he
      · rw [List.mem_singleton.1 he]
      · cases he
  · dsimp only
    refine ⟨?_, ?_, ?_⟩
    · unfold tnotes
      rw [List.pairwise_append]
      refine ⟨h1, h1, ?_⟩
      intro a ha b hb
      rw [hp ha, hp hb]; simp
    · intro n hn
      unfold tnotes at hn
      rcases List.mem_append.1 hn with h | h <;> rw [hp h] <;> exact ⟨rfl, by simp, by simp⟩
    · intro e he
      rw [List.mem_singleton.1 he]
  · exact ⟨.nil, fun n h => (by cases h), fun e h => (by cases h)⟩
  · refine ⟨by simp, fun n h => ?_, fun e h => (by cases h)⟩
    rw [List.mem_singleton.1 h]; exact ⟨rfl, by simp, by simp⟩
theorem fstep_notes (i : Nat) (s : AQ) (c : Int) : (fstep D K i s c).notes.Pairwise (fun a b => a.2 ≤ b.2) ∧ (∀ n ∈ (fstep D K i s c).notes, n.1 = i ∧ 2 ≤ n.2 ∧ n.2 ≤ 7) ∧ (∀ e ∈ (fstep D K i s c).evs, e.pl = i) := by
  obtain ⟨h1, h2, h3⟩ := bstep_notes (D := D) (K := K) i s c
  have h2' : ∀ n ∈ (bstep D K i s c).notes, n.1 = i ∧ 2 ≤ n.2 ∧ n.2 ≤ 7 := fun n hn => by have := h2 n hn; exact ⟨this.1, this.2.1, by omega⟩
  unfold fstep
  split
  · exact ⟨h1, h2', h3⟩
  · next s' _ =>
    split
    · have hp := settle_place i s'.st
      refine ⟨List.pairwise_append.2 ⟨h1, ?_, ?_⟩, ?_, ?_⟩
      · have := settle_one (i + 1) s'.st
        match (settle (i + 1) s'.st).2.1, this with
        | [], _ => exact .nil
        | [x], _ => simp
        | _ :: _ :: _, h => simp at h
      · intro a ha b hb
        have := h2 a ha
        rw [hp.1 b hb]
        show a.2 ≤ 7
        omega
      · intro n hn
        rcases List.mem_append.1 hn with h | h
        · exact h2' n h
        · rw [hp.1 n h]; exact ⟨rfl, by show (2 : Int) ≤ 7; decide, by show (7 : Int) ≤ 7; decide⟩
      · intro e he
        rcases List.mem_append.1 he with h | h
        · exact h3 e h
        · exact hp.2 e h
    · exact ⟨h1, h2', h3⟩
theorem FR.place {i s j s' N E} (h : FR D K B i s j s' N E) : (∀ n ∈ N, i ≤ n.1 ∧ n.1 < j) ∧ (∀ e ∈ E, i ≤ e.pl ∧ e.pl < j) := by
  induction h with
  | refl => exact ⟨fun n h => (by cases h), fun e h => (by cases h)⟩
  | @cons i s s' j s'' N E hi hn g ih =>
    have hl := g.le
    obtain ⟨_, k2, k3⟩ := fstep_notes (D := D) (K := K) i s (B.getD i 0)
    refine ⟨fun n h => ?_, fun e h => ?_⟩
    · rcases List.mem_append.1 h with h | h
      · have := (k2 n h).1; omega
      · have := ih.1 n h; omega
    · rcases List.mem_append.1 h with h | h
      · have := k3 e h; omega
      · have := ih.2 e h; omega

theorem isEnded_eq {s : AQ} (h : s.isEnded = true) : s = ⟨s.st, .ended⟩ := by
  obtain ⟨st, c⟩ := s
  cases c <;> first | rfl | cases h
theorem goes_fr {i s j s'' N E} (h : Goes D K B i s j s'' N E) (hs : s''.isEnded = false) :
    (s.isEnded = true → ∃ N2 E2, FR D K B i (settle i s.st).1 j s'' N2 E2 ∧ N = (settle i s.st).2.1 ++ N2 ∧ E = (settle i s.st).2.2 ++ E2) ∧ (s.isEnded = false → FR D K B i s j s'' N E) := by
  induction h with
  | refl i s => exact ⟨fun h => (by rw [hs] at h; cases h), fun _ => .refl _ _⟩
  | @byte i s s' j s'' N E hi hn g ih =>
    have hne : s.isEnded = false := by
      cases hq : s.isEnded with
      | false => rfl
      | true => rw [isEnded_eq hq] at hn; cases hn
    refine ⟨fun h => (by rw [hne] at h; cases h), fun _ => ?_⟩
    have hf : ∀ o, fstep D K i s (B.getD i 0) = o → o = if s'.isEnded then ⟨some (settle (i + 1) s'.st).1, (bstep D K i s (B.getD i 0)).notes ++ (settle (i + 1) s'.st).2.1, (bstep D K i s (B.getD i 0)).evs ++ (settle (i + 1) s'.st).2.2⟩ else bstep D K i s (B.getD i 0) := by
      rintro o rfl
      unfold fstep
      rw [hn]
    have hf := hf _ rfl
    cases hq : s'.isEnded with
    | true =>
      obtain ⟨N2, E2, g2, rfl, rfl⟩ := (ih hs).1 hq
      rw [hq, if_pos rfl] at hf
      have := FR.cons (D := D) (K := K) (s := s) hi (by rw [hf]) g2
      rw [hf] at this
      simpa only [List.append_assoc] using this
    | false =>
      have g2 := (ih hs).2 hq
      rw [hq, if_neg (by decide)] at hf
      have := FR.cons (D := D) (K := K) (s := s) hi (by rw [hf]; exact hn) g2
      rwa [hf] at this
  | @ende i s j s'' N E hn g ih =>
    refine ⟨fun _ => ?_, fun h => (by rw [hn] at h; cases h)⟩
    have ih := ih hs
    cases hst : s.st with
    | nil =>
      rw [hst] at ih g
      exact ⟨N, E, ih.2 rfl, rfl, rfl⟩
    | cons f st =>
      rw [hst, estep_cons] at ih
      rw [estep_cons]
      unfold settle
      cases hw : f.waits with
      | true =>
        rw [hw, if_pos rfl] at ih
        rw [if_pos rfl, if_pos rfl]
        exact ⟨N, E, ih.2 rfl, rfl, rfl⟩
      | false =>
        rw [hw, if_neg (by decide)] at ih
        rw [if_neg (show ¬ (false = true) by decide), if_neg (show ¬ (false = true) by decide)]
        by_cases hl : f.left = 1
        · rw [if_pos hl] at ih ⊢
          rw [if_pos hl]
          obtain ⟨N2, E2, g2, rfl, rfl⟩ := ih.1 rfl
          exact ⟨N2, E2, g2, rfl, rfl⟩
        · rw [if_neg hl] at ih ⊢
          rw [if_neg hl]
          exact ⟨N, E, ih.2 rfl, rfl, rfl⟩
theorem fstep_none {i s c} (h : (bstep D K i s c).next = none) : fstep D K i s c = bstep D K i s c := by unfold fstep; rw [h]
end
end Go.Proofs.Ytchhbcmkhbfpoaa
