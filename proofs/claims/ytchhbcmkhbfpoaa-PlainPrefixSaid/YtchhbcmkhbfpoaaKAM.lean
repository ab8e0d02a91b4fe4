/- Package auto: the machine goes through an item as the scan does. -/
import Derived.Test.YtchhbcmkhbfpoaaKAL
namespace Go.Proofs.Ytchhbcmkhbfpoaa

/-- The machine can't go on there: the bytes are at their end, or the head is wrong. -/
def Halt (D K : Nat) (B : List Int) (w : Nat) (s : AQ) : Prop :=
  (w = B.length ∧ ((∃ q, s.ctl = .head q) ∨ ∃ n t u, s.ctl = .text n t u)) ∨ (w < B.length ∧ (∃ q, s.ctl = .head q) ∧ (bstep D K w s (B.getD w 0)).next = none ∧ (bstep D K w s (B.getD w 0)).notes ≠ [])
noncomputable def hnts (D K : Nat) (B : List Int) (w : Nat) (s : AQ) : List Note := if w < B.length then (bstep D K w s (B.getD w 0)).notes else []
structure Sim (D K : Nat) (B : List Int) (a : Nat) (s0 : AQ) (st : List Fr) (r : Sc) (E : List AEv) (s1 : AQ) : Prop where
  ok : r.ok = true → a ≤ r.to ∧ r.to ≤ B.length ∧ ∃ N, Goes D K B a s0 r.to s1 N E ∧ ∀ n, n ∈ N ↔ n ∈ r.notes ∨ Kn K st a r.to n
  no : r.ok = false → ∃ w s N, a ≤ w ∧ w ≤ B.length ∧ Goes D K B a s0 w s N r.evs ∧ Halt D K B w s ∧ ∀ n : Note, (n.1 ≤ w ∨ w = B.length) → (n ∈ N ++ hnts D K B w s ↔ n ∈ r.notes ∨ Kn K st a B.length n)
section
variable {D K : Nat} {B : List Int}
theorem Sim.after {a b s0 s1 st N1 E1 P1 r E s2} (hab : a ≤ b) (hb : b ≤ B.length) (g : Goes D K B a s0 b s1 N1 E1) (hN : ∀ n, n ∈ N1 ↔ n ∈ P1 ∨ Kn K st a b n)
    (h : Sim D K B b s1 (st.map (Fr.feeds (slice B a b))) r E s2) : Sim D K B a s0 st ⟨P1 ++ r.notes, E1 ++ r.evs, r.to, r.ok⟩ (E1 ++ E) s2 where
  ok hk := by
    obtain ⟨h1, h2, N, g2, hN2⟩ := h.ok hk
    refine ⟨by show a ≤ r.to; omega, h2, N1 ++ N, g.trans g2, fun n => ?_⟩
    show _ ↔ n ∈ P1 ++ r.notes ∨ Kn K st a r.to n
    rw [List.mem_append, List.mem_append, hN, hN2, ← kn_add (B := B) hab h1 hb]
    constructor
    · rintro ((h | h) | h | h)
      · exact .inl (.inl h)
      · exact .inr (.inl h)
      · exact .inl (.inr h)
      · exact .inr (.inr h)
    · rintro ((h | h) | h | h)
      · exact .inl (.inl h)
      · exact .inr (.inl h)
      · exact .inl (.inr h)
      · exact .inr (.inr h)
  no hk := by
    obtain ⟨w, s, N, h1, h2, g2, hh, hN2⟩ := h.no hk
    refine ⟨w, s, N1 ++ N, by omega, h2, g.trans g2, hh, fun n hn => ?_⟩
    have := hN2 n hn
    show _ ↔ n ∈ P1 ++ r.notes ∨ Kn K st a B.length n
    rw [List.append_assoc, List.mem_append, hN, this, List.mem_append, ← kn_add (B := B) hab hb hb]
    constructor
    · rintro ((h | h) | h | h)
      · exact .inl (.inl h)
      · exact .inr (.inl h)
      · exact .inl (.inr h)
      · exact .inr (.inr h)
    · rintro ((h | h) | h | h)
      · exact .inl (.inl h)
      · exact .inr (.inl h)
      · exact .inl (.inr h)
      · exact .inr (.inr h)
theorem Sim.congr {a s0 st r r' E s1} (h : Sim D K B a s0 st r E s1) (he : r'.evs = r.evs ∨ r.ok = true) (ht : r'.to = r.to) (hk : r'.ok = r.ok)
    (hn : ∀ n, (n ∈ r'.notes ∨ Kn K st a (if r.ok then r.to else B.length) n) ↔ (n ∈ r.notes ∨ Kn K st a (if r.ok then r.to else B.length) n)) : Sim D K B a s0 st r' E s1 where
  ok h' := by
    rw [hk] at h'
    obtain ⟨h1, h2, N, g, hN⟩ := h.ok h'
    rw [ht]
    refine ⟨h1, h2, N, g, fun n => ?_⟩
    have := hn n
    rw [h', if_pos rfl] at this
    rw [hN, this]
  no h' := by
    rw [hk] at h'
    obtain ⟨w, s, N, h1, h2, g, hh, hN⟩ := h.no h'
    have he' : r'.evs = r.evs := by
      rcases he with h | h
      · exact h
      · rw [h'] at h; cases h
    rw [he']
    refine ⟨w, s, N, h1, h2, g, hh, fun n hw => ?_⟩
    have := hn n
    rw [h', if_neg (by decide)] at this
    rw [hN n hw, this]
theorem Sim.refl {a st s} (hb : a ≤ B.length) : Sim D K B a s st ⟨[], [], a, true⟩ [] s where
  ok _ := ⟨Nat.le_refl _, hb, [], .refl _ _, fun n => ⟨fun h => (by cases h), fun h => by rcases h with h | h; cases h; exact (Kn.none h).elim⟩⟩
  no h := by cases h
theorem kn_drop {f0 : Fr} {st : List Fr} {a b : Nat} {n : Note} (h : f0.waits = false) : Kn K (f0 :: st) a b n ↔ Kn K st a b n := by
  constructor
  · rintro ⟨h1, h2, h3, f, hf, hw, he⟩
    rcases List.mem_cons.1 hf with rfl | hf
    · rw [h] at hw; cases hw
    · exact ⟨h1, h2, h3, f, hf, hw, he⟩
  · rintro ⟨h1, h2, h3, f, hf, hw, he⟩
    exact ⟨h1, h2, h3, f, List.mem_cons_of_mem _ hf, hw, he⟩
theorem kn_key {f0 : Fr} {st : List Fr} {a b : Nat} {n : Note} {P : Prop} (hc : f0.cur = []) (hP : K < b - a → n = (a + K, 4) → P) : (P ∨ Kn K (f0 :: st) a b n) ↔ (P ∨ Kn K st a b n) := by
  constructor
  · rintro (h | ⟨h1, h2, h3, f, hf, hw, he⟩)
    · exact .inl h
    · rcases List.mem_cons.1 hf with rfl | hf
      · rw [hc] at he
        simp only [List.length_nil] at he
        exact .inl (hP (by omega) (Prod.ext (by show n.1 = a + K; omega) h1))
      · exact .inr ⟨h1, h2, h3, f, hf, hw, he⟩
  · rintro (h | ⟨h1, h2, h3, f, hf, hw, he⟩)
    · exact .inl h
    · exact .inr ⟨h1, h2, h3, f, List.mem_cons_of_mem _ hf, hw, he⟩
theorem Fr.feeds_still {f : Fr} (h : f.waits = false) (xs : List Int) : f.feeds xs = f := if_neg (by rw [h]; decide)
end

theorem estep_cons (i : Nat) (f : Fr) (st : List Fr) : estep i (f :: st) = if f.waits then (begins (f.keyed :: st), onotes i f, [endEv true (st.length + 2) i]) else (if f.left = 1 then ⟨st, .ended⟩ else begins (f.less :: st), [], [endEv false (st.length + 2) i]) := rfl
/-- An item's scan. -/
def ItemSim (D K : Nat) (B : List Int) (a : Nat) (st : List Fr) (key : Bool) (r : Sc) : Prop :=
  ∃ E, (r.ok = true → r.evs = E ++ [endEv key (st.length + 1) r.to]) ∧ Sim D K B a (begins st) st r E ⟨st.map (Fr.feeds (slice B a r.to)), .ended⟩ ∧
    (key = true → K < (if r.ok then r.to else B.length) - a → (a + K, 4) ∈ r.notes)
section
variable {D K : Nat} {B : List Int}
theorem many_sim (lim : Nat) (item : Nat → Sc) (d : Nat) (hitem : ∀ a st, lim ≤ a → a ≤ B.length → st.length = d → (∀ f st', st = f :: st' → f.waits = false) → ItemSim D K B a st false (item a)) (n : Nat) :
    ∀ (a : Nat) (f0 : Fr) (st : List Fr), f0.kind ≠ 5 → f0.left = (n + 1 : Nat) → lim ≤ a → a ≤ B.length → st.length + 1 = d →
      Sim D K B a (begins (f0 :: st)) st (scMany item (n + 1) a) (scMany item (n + 1) a).evs ⟨st.map (Fr.feeds (slice B a (scMany item (n + 1) a).to)), .ended⟩ := by
  induction n with
  | zero =>
    intro a f0 st hk hl hlim ha hd
    have hw : f0.waits = false := by unfold Fr.waits; simp [hk]
    obtain ⟨E, hE, hS, _⟩ := hitem a (f0 :: st) hlim ha (by simpa using hd) (fun f st' e => by injection e with e1 e2; rw [← e1]; exact hw)
    have hm : scMany item 1 a = if (item a).ok then ⟨(item a).notes ++ [], (item a).evs ++ [], (item a).to, true⟩ else item a := rfl
    cases hok : (item a).ok with
    | true =>
      rw [hok, if_pos rfl, List.append_nil, List.append_nil] at hm
      rw [hm]
      obtain ⟨h1, h2, N, g, hN⟩ := hS.ok hok
      have hev := hE hok
      refine ⟨fun _ => ⟨h1, h2, N, ?_, fun n => by rw [hN, kn_drop hw]⟩, fun h => by cases h⟩
      show Goes D K B a (begins (f0 :: st)) (item a).to _ N (item a).evs
      rw [hev]
      have g2 : Goes D K B (item a).to ⟨(f0 :: st).map (Fr.feeds (slice B a (item a).to)), .ended⟩ (item a).to ⟨st.map (Fr.feeds (slice B a (item a).to)), .ended⟩ [] [endEv false ((f0 :: st).length + 1) (item a).to] := by
        refine Goes.end1 rfl ?_
        show estep _ (f0.feeds _ :: st.map _) = _
        rw [Fr.feeds_still hw]
        rw [estep_cons, hw, if_neg (by decide), if_pos (by rw [hl]; rfl), List.length_map]
        rfl
      have := g.trans g2
      rwa [List.append_nil] at this
    | false =>
      rw [hok, if_neg (by decide)] at hm
      rw [hm]
      refine ⟨fun h => (by rw [hok] at h; cases h), fun h => ?_⟩
      obtain ⟨w, s, N, h1, h2, g, hh, hN⟩ := hS.no hok
      exact ⟨w, s, N, h1, h2, g, hh, fun n hn => by rw [hN n hn, kn_drop hw]⟩
  | succ n ih =>
    intro a f0 st hk hl hlim ha hd
    have hw : f0.waits = false := by unfold Fr.waits; simp [hk]
    obtain ⟨E, hE, hS, _⟩ := hitem a (f0 :: st) hlim ha (by simpa using hd) (fun f st' e => by injection e with e1 e2; rw [← e1]; exact hw)
    have hm : scMany item (n + 1 + 1) a = if (item a).ok then ⟨(item a).notes ++ (scMany item (n + 1) (item a).to).notes, (item a).evs ++ (scMany item (n + 1) (item a).to).evs, (scMany item (n + 1) (item a).to).to, (scMany item (n + 1) (item a).to).ok⟩ else item a := rfl
    cases hok : (item a).ok with
    | true =>
      rw [hok, if_pos rfl] at hm
      rw [hm]
      obtain ⟨h1, h2, N, g, hN⟩ := hS.ok hok
      have hev := hE hok
      have g2 : Goes D K B (item a).to ⟨(f0 :: st).map (Fr.feeds (slice B a (item a).to)), .ended⟩ (item a).to (begins (f0.less :: st.map (Fr.feeds (slice B a (item a).to)))) [] [endEv false ((f0 :: st).length + 1) (item a).to] := by
        refine Goes.end1 rfl ?_
        show estep _ (f0.feeds _ :: st.map _) = _
        rw [Fr.feeds_still hw]
        rw [estep_cons, hw, if_neg (by decide), if_neg (by rw [hl]; omega), List.length_map]
        rfl
      have g3 := g.trans g2
      rw [List.append_nil, ← hev] at g3
      have hI := ih (item a).to f0.less (st.map (Fr.feeds (slice B a (item a).to))) hk (by show f0.left - 1 = _; rw [hl]; omega) (by omega) h2 (by rw [List.length_map]; exact hd)
      have := Sim.after (P1 := (item a).notes) (st := st) h1 h2 g3 (fun n => by rw [hN, kn_drop hw]) hI
      refine ⟨fun h' => ?_, this.no⟩
      obtain ⟨k1, k2, N', g', hN'⟩ := this.ok h'
      refine ⟨k1, k2, N', ?_, hN'⟩
      rw [map_feeds, slice_add h1 (hI.ok h').1] at g'
      exact g'
    | false =>
      rw [hok, if_neg (by decide)] at hm
      rw [hm]
      refine ⟨fun h => (by rw [hok] at h; cases h), fun h => ?_⟩
      obtain ⟨w, s, N, h1, h2, g, hh, hN⟩ := hS.no hok
      exact ⟨w, s, N, h1, h2, g, hh, fun n hn => by rw [hN n hn, kn_drop hw]⟩
end
end Go.Proofs.Ytchhbcmkhbfpoaa

/- Package auto: the machine goes through an item as the scan does; maps, whole items. -/
namespace Go.Proofs.Ytchhbcmkhbfpoaa
section
variable {D K : Nat} {B : List Int}
theorem Sim.stop {a s0 st r E s1} (h : r.ok = false) (hn : ∃ w s N, a ≤ w ∧ w ≤ B.length ∧ Goes D K B a s0 w s N r.evs ∧ Halt D K B w s ∧ ∀ n : Note, (n.1 ≤ w ∨ w = B.length) → (n ∈ N ++ hnts D K B w s ↔ n ∈ r.notes ∨ Kn K st a B.length n)) : Sim D K B a s0 st r E s1 :=
  ⟨fun h' => (by rw [h] at h'; cases h'), fun _ => hn⟩
theorem pairs_sim (lim : Nat) (ik iv : Nat → Sc) (d : Nat) (hik : ∀ a st, lim ≤ a → a ≤ B.length → st.length = d → (∃ f st', st = f :: st' ∧ f.waits = true ∧ f.cur = []) → ItemSim D K B a st true (ik a))
    (hiv : ∀ a st, lim ≤ a → a ≤ B.length → st.length = d → (∀ f st', st = f :: st' → f.waits = false) → ItemSim D K B a st false (iv a)) (n : Nat) :
    ∀ (a : Nat) (fst : Bool) (last : List Int) (f0 : Fr) (st : List Fr), f0.kind = 5 → f0.half = false → f0.cur = [] → f0.left = (n + 1 : Nat) → f0.any = !fst → (fst = false → f0.last = last) → lim ≤ a → a ≤ B.length → st.length + 1 = d →
      Sim D K B a (begins (f0 :: st)) st (scPairs B ik iv (n + 1) fst last a) (scPairs B ik iv (n + 1) fst last a).evs ⟨st.map (Fr.feeds (slice B a (scPairs B ik iv (n + 1) fst last a).to)), .ended⟩ := by
  induction n with
  | zero | succ n ih =>
    intro a fst last f0 st hk hh hc hl hany hlast hlim ha hd
    have hw : f0.waits = true := by unfold Fr.waits; simp [hk, hh]
    obtain ⟨E, hE, hS, hK⟩ := hik a (f0 :: st) hlim ha (by simpa using hd) ⟨f0, st, rfl, hw, hc⟩
    have hm := fun m => show scPairs B ik iv (m + 1) fst last a = scPair B ik iv (scPairs B ik iv m false) fst last a from rfl
    rw [hm]
    clear hm
    unfold scPair
    dsimp only
    cases hok : (ik a).ok with
    | false =>
      rw [if_neg (by decide)]
      refine Sim.stop hok ?_
      rw [hok, if_neg (by decide)] at hK
      obtain ⟨w, s, N, h1, h2, g, hh, hN⟩ := hS.no hok
      exact ⟨w, s, N, h1, h2, g, hh, fun n hn => by rw [hN n hn]; exact kn_key hc (fun hlt he => he ▸ hK rfl hlt)⟩
    | true =>
      rw [if_pos rfl]
      rw [hok, if_pos rfl] at hK
      obtain ⟨h1, h2, N, g, hN⟩ := hS.ok hok
      have hev := hE hok
      have hfc : f0.feeds (slice B a (ik a).to) = { f0 with cur := slice B a (ik a).to } := by
        unfold Fr.feeds
        rw [if_pos hw, hc]
        rfl
      have hnn : (if !fst && !ahead last (slice B a (ik a).to) then [(((ik a).to - 1, 7) : Note)] else []) = onotes (ik a).to (f0.feeds (slice B a (ik a).to)) := by
        rw [hfc]
        unfold onotes
        dsimp only
        rw [hany]
        cases fst with
        | true => rfl
        | false => rw [hlast rfl]
      rw [hnn]
      have g2 : Goes D K B (ik a).to ⟨(f0 :: st).map (Fr.feeds (slice B a (ik a).to)), .ended⟩ (ik a).to (begins ((f0.feeds (slice B a (ik a).to)).keyed :: st.map (Fr.feeds (slice B a (ik a).to)))) (onotes (ik a).to (f0.feeds (slice B a (ik a).to))) [endEv true ((f0 :: st).length + 1) (ik a).to] := by
        refine Goes.end1 rfl ?_
        show estep _ (f0.feeds _ :: st.map _) = _
        rw [estep_cons, Fr.waits_feeds, hw, if_pos rfl, List.length_map]
        rfl
      have g3 := g.trans g2
      rw [← hev] at g3
      have hN3 : ∀ n, n ∈ N ++ onotes (ik a).to (f0.feeds (slice B a (ik a).to)) ↔ n ∈ (ik a).notes ++ onotes (ik a).to (f0.feeds (slice B a (ik a).to)) ∨ Kn K st a (ik a).to n := by
        intro n
        rw [List.mem_append, List.mem_append, hN, kn_key hc (fun hlt he => he ▸ hK rfl hlt)]
        constructor
        · rintro ((h | h) | h)
          · exact .inl (.inl h)
          · exact .inr h
          · exact .inl (.inr h)
        · rintro ((h | h) | h)
          · exact .inl (.inl h)
          · exact .inr h
          · exact .inl (.inr h)
      generalize hf1 : (f0.feeds (slice B a (ik a).to)).keyed = f1 at *
      generalize hst1 : st.map (Fr.feeds (slice B a (ik a).to)) = st1 at *
      have hw1 : f1.waits = false := by rw [← hf1]; unfold Fr.keyed Fr.waits; simp
      have hl1 : f1.left = f0.left := by rw [← hf1, hfc]; rfl
      obtain ⟨E1, hE1, hS1, _⟩ := hiv (ik a).to (f1 :: st1) (by omega) h2 (by rw [← hst1]; simpa using hd) (fun f st' e => by injection e with e1 e2; rw [← e1]; exact hw1)
      generalize iv (ik a).to = v at *
      cases hvk : v.ok with
      | false =>
        rw [if_neg (by decide)]
        have hv : Sim D K B (ik a).to (begins (f1 :: st1)) (st.map (Fr.feeds (slice B a (ik a).to))) ⟨v.notes, v.evs, v.to, false⟩ [] (begins []) := by
          refine Sim.stop rfl ?_
          obtain ⟨w, s, N, k1, k2, g, hh, hN⟩ := hS1.no hvk
          rw [hst1]
          exact ⟨w, s, N, k1, k2, g, hh, fun n hn => by rw [hN n hn, kn_drop hw1]⟩
        have := Sim.after (P1 := (ik a).notes ++ onotes (ik a).to (f0.feeds (slice B a (ik a).to))) h1 h2 g3 hN3 hv
        rw [List.append_assoc] at this
        exact Sim.stop rfl (this.no rfl)
      | true =>
        rw [if_pos rfl]
        obtain ⟨k1, k2, N1, g1, hN1⟩ := hS1.ok hvk
        have hev1 := hE1 hvk
        first
        | -- the last pair
          have hl2 : f1.left = 1 := by rw [hl1, hl]; rfl
          have g4 : Goes D K B v.to ⟨(f1 :: st1).map (Fr.feeds (slice B (ik a).to v.to)), .ended⟩ v.to ⟨st1.map (Fr.feeds (slice B (ik a).to v.to)), .ended⟩ [] [endEv false ((f1 :: st1).length + 1) v.to] := by
            refine Goes.end1 rfl ?_
            show estep _ (f1.feeds _ :: st1.map _) = _
            rw [Fr.feeds_still hw1, estep_cons, hw1, if_neg (by decide), if_pos hl2, List.length_map]
            rfl
          have g5 := g1.trans g4
          rw [← hev1, List.append_nil] at g5
          have A := Sim.after (P1 := v.notes) (st := st1) (r := ⟨[], [], v.to, true⟩) k1 k2 g5 (fun n => by rw [hN1, kn_drop hw1]) (Sim.refl k2)
          subst hst1
          have := Sim.after (P1 := (ik a).notes ++ onotes (ik a).to (f0.feeds (slice B a (ik a).to))) h1 h2 g3 hN3 A
          rw [List.append_assoc] at this
          show Sim D K B a _ st ⟨(ik a).notes ++ (onotes _ _ ++ (v.notes ++ [])), (ik a).evs ++ (v.evs ++ []), v.to, true⟩ ((ik a).evs ++ (v.evs ++ [])) ⟨st.map (Fr.feeds (slice B a v.to)), .ended⟩
          rw [map_feeds, slice_add h1 k1] at this
          exact this
        | have hl2 : ¬ f1.left = 1 := by rw [hl1, hl]; omega
          have g4 : Goes D K B v.to ⟨(f1 :: st1).map (Fr.feeds (slice B (ik a).to v.to)), .ended⟩ v.to (begins (f1.less :: st1.map (Fr.feeds (slice B (ik a).to v.to)))) [] [endEv false ((f1 :: st1).length + 1) v.to] := by
            refine Goes.end1 rfl ?_
            show estep _ (f1.feeds _ :: st1.map _) = _
            rw [Fr.feeds_still hw1, estep_cons, hw1, if_neg (by decide), if_neg hl2, List.length_map]
            rfl
          have g5 := g1.trans g4
          rw [← hev1, List.append_nil] at g5
          have hI := ih v.to false (slice B a (ik a).to) f1.less (st1.map (Fr.feeds (slice B (ik a).to v.to))) (by rw [← hf1, hfc]; exact hk) rfl (by rw [← hf1]; rfl) (by show f1.left - 1 = _; rw [hl1, hl]; omega) (by rw [← hf1]; rfl) (fun _ => by rw [← hf1, hfc]; rfl) (by omega) k2 (by rw [List.length_map, ← hst1, List.length_map]; exact hd)
          have A := Sim.after (P1 := v.notes) (st := st1) k1 k2 g5 (fun n => by rw [hN1, kn_drop hw1]) hI
          subst hst1
          have := Sim.after (P1 := (ik a).notes ++ onotes (ik a).to (f0.feeds (slice B a (ik a).to))) h1 h2 g3 hN3 A
          rw [List.append_assoc] at this
          refine ⟨fun h' => ?_, this.no⟩
          obtain ⟨q1, q2, N', g', hN'⟩ := this.ok h'
          refine ⟨q1, q2, N', ?_, hN'⟩
          rw [map_feeds, map_feeds, slice_add k1 (hI.ok h').1, slice_add h1 (Nat.le_trans k1 (hI.ok h').1)] at g'
          exact g'
end
end Go.Proofs.Ytchhbcmkhbfpoaa

/- Package auto: the machine goes through a whole item as the scan does. -/
namespace Go.Proofs.Ytchhbcmkhbfpoaa
theorem hread_arg (L : List Int) : 0 ≤ (hread L).arg := by
  unfold hread
  have hb : ∀ W, 0 ≤ harg L W := fun W => (big_range 18446744073709551616 (pad (L.drop 1) W.toNat) (by decide)).1
  repeat' split
  all_goals first
    | exact Int.le_refl 0
    | exact hb _
    | (show 0 ≤ L.getD 0 0 % 32; omega)
/-- Is the stack one in which a key, or no key, begins? -/
def Kst (key : Bool) (st : List Fr) : Prop := (key = true → ∃ f st', st = f :: st' ∧ f.waits = true ∧ f.cur = []) ∧ (key = false → ∀ f st', st = f :: st' → f.waits = false)
section
variable {D K : Nat} {B : List Int}
theorem body_sim (lim : Nat) (item : Nat → Nat → Bool → Sc) (hitem : ∀ a st key, lim ≤ a → a ≤ B.length → Kst key st → ItemSim D K B a st key (item a (st.length + 1) key))
    (a : Nat) (st : List Fr) (m g : Int) (hlim : lim ≤ a) (ha : a ≤ B.length) (hg : 0 ≤ g) :
    Sim D K B a (enter st m g) st (scBody B item (st.length + 1) m g a) (scBody B item (st.length + 1) m g a).evs ⟨st.map (Fr.feeds (slice B a (scBody B item (st.length + 1) m g a).to)), .ended⟩ := by
  have hrefl : ∀ s, s = (⟨st, .ended⟩ : AQ) → Sim D K B a s st ⟨[], [], a, true⟩ [] ⟨st.map (Fr.feeds (slice B a a)), .ended⟩ := by
    rintro s rfl
    rw [slice_nil, map_feeds_nil]
    exact Sim.refl ha
  have hfalse : ∀ a st', lim ≤ a → a ≤ B.length → st'.length = st.length + 1 → (∀ f st'', st' = f :: st'' → f.waits = false) → ItemSim D K B a st' false (item a (st.length + 1 + 1) false) := fun a st' h1 h2 h3 h4 => by
    rw [← h3]; exact hitem a st' false h1 h2 ⟨fun h => (by cases h), fun _ => h4⟩
  have htrue : ∀ a st', lim ≤ a → a ≤ B.length → st'.length = st.length + 1 → (∃ f st'', st' = f :: st'' ∧ f.waits = true ∧ f.cur = []) → ItemSim D K B a st' true (item a (st.length + 1 + 1) true) := fun a st' h1 h2 h3 h4 => by
    rw [← h3]; exact hitem a st' true h1 h2 ⟨fun _ => h4, fun h => (by cases h)⟩
  by_cases h23 : m = 2 ∨ m = 3
  · have e1 : scBody B item (st.length + 1) m g a = ⟨if m = 3 then unotes (decide (g ≤ ((B.length - a : Nat) : Int))) uq0 (slice B a (a + (if decide (g ≤ ((B.length - a : Nat) : Int)) then g.toNat else B.length - a))) a else [],
        bevs (st.length + 1) (slice B a (a + (if decide (g ≤ ((B.length - a : Nat) : Int)) then g.toNat else B.length - a))) a, a + (if decide (g ≤ ((B.length - a : Nat) : Int)) then g.toNat else B.length - a), decide (g ≤ ((B.length - a : Nat) : Int))⟩ := by
      unfold scBody
      rw [if_pos h23]
    rw [e1]
    by_cases h0 : g = 0
    · subst h0
      rw [decide_eq_true (by omega : (0 : Int) ≤ ((B.length - a : Nat) : Int)), if_pos rfl, show a + (0 : Int).toNat = a from rfl, slice_nil]
      have := hrefl (enter st m 0) (by unfold enter; rw [if_pos h23, if_pos rfl])
      rw [slice_nil] at this
      have e2 : (if m = 3 then unotes true uq0 [] a else []) = [] := by split <;> rfl
      rw [e2]
      exact this
    · have hen : enter st m g = ⟨st, .text g (m == 3) uq0⟩ := by unfold enter; rw [if_pos h23, if_neg h0]
      rw [hen]
      cases hwh : decide (g ≤ ((B.length - a : Nat) : Int)) with
      | true =>
        have := of_decide_eq_true hwh
        rw [if_pos rfl]
        obtain ⟨N, s', hgo, hs', hN⟩ := text_run D K B (m == 3) true g.toNat a g uq0 st (by omega) (by rw [if_pos rfl]; omega) (by omega) (fun _ => by omega)
        rw [if_pos rfl] at hs'
        subst hs'
        refine ⟨fun _ => ⟨Nat.le_add_right _ _, by show a + g.toNat ≤ _; omega, N, hgo, fun n => ?_⟩, fun h => by cases h⟩
        rw [hN]
        by_cases h3 : m = 3
        · simp [h3]
        · simp [h3]
      | false =>
        have := of_decide_eq_false hwh
        rw [if_neg (show ¬ (false = true) by decide)]
        obtain ⟨N, s', hgo, hs', hN⟩ := text_run D K B (m == 3) false (B.length - a) a g uq0 st (by omega) (by rw [if_neg (by decide)]; omega) (by omega) (fun h => by cases h)
        rw [if_neg (by decide)] at hs'
        obtain ⟨n', u', rfl⟩ := hs'
        refine Sim.stop rfl ⟨a + (B.length - a), _, N, by omega, by omega, hgo, .inl ⟨by omega, .inr ⟨_, _, _, rfl⟩⟩, fun n _ => ?_⟩
        unfold hnts
        rw [if_neg (by omega), List.append_nil, hN, show a + (B.length - a) = B.length by omega]
        by_cases h3 : m = 3
        · simp [h3]
        · simp [h3]
  by_cases h46 : m = 4 ∨ m = 6
  · have e1 : scBody B item (st.length + 1) m g a = scMany (fun a => item a (st.length + 1 + 1) false) (if m = 6 then 1 else g.toNat) a := by unfold scBody; rw [if_neg h23, if_pos h46]
    rw [e1]
    by_cases h6 : m = 6
    · subst h6
      rw [if_pos rfl]
      exact many_sim lim _ (st.length + 1) hfalse 0 a ⟨6, 1, false, [], [], false⟩ st (by decide) rfl hlim ha rfl
    · obtain rfl : m = 4 := by omega
      rw [if_neg (by decide)]
      by_cases h0 : g = 0
      · subst h0
        exact hrefl _ rfl
      · have hen : enter st 4 g = begins (⟨4, g, false, [], [], false⟩ :: st) := by unfold enter; rw [if_neg (by decide), if_pos (by decide), if_neg h0]
        rw [hen, show g.toNat = (g.toNat - 1) + 1 by omega]
        exact many_sim lim _ (st.length + 1) hfalse (g.toNat - 1) a ⟨4, g, false, [], [], false⟩ st (by show (4 : Int) ≠ 5; decide) (by show g = _; omega) hlim ha rfl
  by_cases h5 : m = 5
  · subst h5
    have e1 : scBody B item (st.length + 1) 5 g a = scPairs B (fun a => item a (st.length + 1 + 1) true) (fun a => item a (st.length + 1 + 1) false) g.toNat true [] a := by unfold scBody; rw [if_neg (by decide), if_neg (by decide), if_pos rfl]
    rw [e1]
    by_cases h0 : g = 0
    · subst h0
      exact hrefl _ rfl
    · have hen : enter st 5 g = begins (⟨5, g, false, [], [], false⟩ :: st) := by unfold enter; rw [if_neg (by decide), if_pos (by decide), if_neg h0]
      rw [hen, show g.toNat = (g.toNat - 1) + 1 by omega]
      exact pairs_sim lim _ _ (st.length + 1) htrue hfalse (g.toNat - 1) a true [] ⟨5, g, false, [], [], false⟩ st rfl rfl rfl (by show g = _; omega) rfl (fun h => by cases h) hlim ha rfl
  · have e1 : scBody B item (st.length + 1) m g a = ⟨[], [], a, true⟩ := by unfold scBody; rw [if_neg h23, if_neg h46, if_neg h5]
    rw [e1]
    exact hrefl _ (by unfold enter; rw [if_neg h23, if_neg (by omega), if_neg (by omega)])

def dnl (D : Nat) (B : List Int) (st : List Fr) (a : Nat) : List Note := if D < st.length + 1 ∧ a < B.length then [(a, 3)] else []
theorem mem_dnl {st a n} : n ∈ dnl D B st a ↔ Dn D B st a n := by unfold dnl Dn; rw [mem_ite, and_assoc]
theorem inner_sim (item : Nat → Nat → Bool → Sc) (a : Nat) (st : List Fr) (hitem : ∀ a' st key, a < a' → a' ≤ B.length → Kst key st → ItemSim D K B a' st key (item a' (st.length + 1) key)) (ha : a ≤ B.length) :
    Sim D K B a (begins st) st ⟨dnl D B st a ++ (scInner B item a (st.length + 1)).notes, (scInner B item a (st.length + 1)).evs, (scInner B item a (st.length + 1)).to, (scInner B item a (st.length + 1)).ok⟩ (scInner B item a (st.length + 1)).evs
      ⟨st.map (Fr.feeds (slice B a (scInner B item a (st.length + 1)).to)), .ended⟩ ∧ ((scInner B item a (st.length + 1)).ok = true → a < (scInner B item a (st.length + 1)).to) := by
  have H := head_run D K B a _ 0 hq0 st rfl (Nat.zero_le _) ha (.inl ⟨rfl, rfl⟩)
  have harg0 := hread_arg (B.drop a)
  unfold HeadRun at H
  unfold scInner
  generalize hread (B.drop a) = r at *
  rw [Nat.add_zero] at H
  dsimp only
  rcases H with ⟨h9, q', N, hg, hN⟩ | ⟨h0, h25, p, q', N, hp, _, hap, hg, hnx, hne, hN⟩ | ⟨m, hm, hkm, ham, he2, N, hg, hN⟩
  · rw [if_pos (.inr h9)]
    refine ⟨Sim.stop rfl ⟨B.length, _, N, ha, Nat.le_refl _, hg, .inl ⟨rfl, .inl ⟨_, rfl⟩⟩, fun n _ => ?_⟩, fun h => by cases h⟩
    unfold hnts
    rw [if_neg (by omega), List.append_nil, List.append_nil, hN, mem_dnl]
    simp
  · rw [if_neg (by omega), if_pos h0, if_neg (by omega), hp]
    refine ⟨Sim.stop rfl ⟨a + p, _, N, by omega, by omega, hg, .inr ⟨hap, ⟨_, rfl⟩, hnx, hne⟩, fun n hn => ?_⟩, fun h => by cases h⟩
    have hn : n.1 ≤ a + p := by omega
    unfold hnts
    rw [if_pos hap, hN]
    show _ ↔ n ∈ dnl D B st a ++ [(a + p, r.e)] ∨ _
    rw [List.mem_append, mem_dnl, List.mem_singleton, or_assoc]
    have : Kn K st a (a + p + 1) n ↔ Kn K st a B.length n := by
      unfold Kn
      constructor
      · rintro ⟨h1, h2, h3, h4⟩; exact ⟨h1, h2, by omega, h4⟩
      · rintro ⟨h1, h2, h3, h4⟩; exact ⟨h1, h2, by omega, h4⟩
    rw [this]
    simp
  · have hmt : r.many.toNat = m := by omega
    rw [if_neg (by rcases he2 with h | h <;> omega), if_neg (by omega), hmt]
    have hb := body_sim (D := D) (K := K) (B := B) (a + 1) item (fun a' st key h1 h2 h3 => hitem a' st key (by omega) h2 h3) (a + m) (st.map (Fr.feeds (slice B a (a + m)))) r.major r.arg (by omega) ham harg0
    rw [List.length_map] at hb
    have A := Sim.after (P1 := dnl D B st a ++ (if r.e = 0 then [] else [(a + r.place.toNat, r.e)])) (show a ≤ a + m by omega) ham hg (fun n => ?_) hb
    · dsimp only
      rw [List.append_assoc] at A
      refine ⟨⟨fun h => ?_, A.no⟩, fun h => ?_⟩
      · obtain ⟨k1, k2, N', g', hN'⟩ := A.ok h
        refine ⟨k1, k2, N', ?_, hN'⟩
        rw [map_feeds, slice_add (by omega) (hb.ok h).1] at g'
        exact g'
      · have := (hb.ok h).1
        omega
    · rw [hN, List.mem_append, mem_dnl, or_assoc]
      simp only [true_and]
      rcases he2 with h | ⟨h, h'⟩
      · rw [if_pos h]
        simp [h]
      · rw [if_neg (by omega), List.mem_singleton, show a + r.place.toNat = a + m - 1 by omega]
        simp [h]
theorem item_sim (f : Nat) : ∀ (a : Nat) (st : List Fr) (key : Bool), B.length - a < f → a ≤ B.length → Kst key st → ItemSim D K B a st key (scItem B D K f a (st.length + 1) key) := by
  induction f with
  | zero => intro a st key h; omega
  | succ f ih =>
    intro a st key hf ha hk
    obtain ⟨hS, hto⟩ := inner_sim (D := D) (K := K) (B := B) (scItem B D K f) a st (fun a' st key h1 h2 h3 => ih a' st key (by omega) h2 h3) ha
    have e : scItem B D K (f + 1) a (st.length + 1) key = ⟨dnl D B st a ++ ((scInner B (scItem B D K f) a (st.length + 1)).notes ++ (if key ∧ K < (if (scInner B (scItem B D K f) a (st.length + 1)).ok then (scInner B (scItem B D K f) a (st.length + 1)).to else B.length) - a then [(a + K, 4)] else [])),
      (scInner B (scItem B D K f) a (st.length + 1)).evs ++ (if (scInner B (scItem B D K f) a (st.length + 1)).ok then [endEv key (st.length + 1) (scInner B (scItem B D K f) a (st.length + 1)).to] else []), (scInner B (scItem B D K f) a (st.length + 1)).to, (scInner B (scItem B D K f) a (st.length + 1)).ok⟩ := rfl
    rw [e]
    generalize scInner B (scItem B D K f) a (st.length + 1) = r at *
    refine ⟨r.evs, fun h => ?_, Sim.congr hS ?_ rfl rfl (fun n => ?_), fun h1 h2 => ?_⟩
    · dsimp only at h ⊢
      rw [h]
      rfl
    · cases hok : r.ok with
      | true => exact .inr rfl
      | false => left; dsimp only; rw [if_neg (by decide), List.append_nil]
    · dsimp only
      simp only [List.mem_append, or_assoc, mem_ite]
      constructor
      · rintro (h | h | ⟨⟨h1, h2⟩, h3⟩ | h)
        · exact .inl h
        · exact .inr (.inl h)
        · obtain ⟨f1, st', rfl, hw, hc⟩ := hk.1 h1
          refine .inr (.inr ⟨by rw [h3], by rw [h3]; exact Nat.le_add_right _ _, by rw [h3]; show a + K < _; omega, f1, List.mem_cons_self, hw, by rw [hc, h3]; show 0 + (a + K - a) = K; omega⟩)
        · exact .inr (.inr h)
      · rintro (h | h | h)
        · exact .inl h
        · exact .inr (.inl h)
        · exact .inr (.inr (.inr h))
    · dsimp only at h2 ⊢
      rw [if_pos ⟨h1, h2⟩]
      exact List.mem_append_right _ (List.mem_append_right _ (List.mem_singleton.2 rfl))
end
end Go.Proofs.Ytchhbcmkhbfpoaa

/- Package auto: byte by byte the machine tells what the scan of the whole notes. -/
namespace Go.Proofs.Ytchhbcmkhbfpoaa

/-- The machine byte by byte. -/
inductive FR (D K : Nat) (B : List Int) : Nat → AQ → Nat → AQ → List Note → List AEv → Prop
  | refl (i s) : FR D K B i s i s [] []
  | cons {i s s' j s'' N E} (hi : i < B.length) (h : (fstep D K i s (B.getD i 0)).next = some s') (g : FR D K B (i + 1) s' j s'' N E) :
      FR D K B i s j s'' ((fstep D K i s (B.getD i 0)).notes ++ N) ((fstep D K i s (B.getD i 0)).evs ++ E)
section
variable {D K : Nat} {B : List Int}
theorem FR.one {i s s'} (hi : i < B.length) (h : (fstep D K i s (B.getD i 0)).next = some s') : FR D K B i s (i + 1) s' (fstep D K i s (B.getD i 0)).notes (fstep D K i s (B.getD i 0)).evs := by
  have := FR.cons hi h (.refl _ _)
  rwa [List.append_nil, List.append_nil] at this
theorem FR.trans {i s j s' k s'' N E N' E'} (h : FR D K B i s j s' N E) (h' : FR D K B j s' k s'' N' E') : FR D K B i s k s'' (N ++ N') (E ++ E') := by
  induction h with
  | refl => exact h'
  | cons hi hn _ ih => rw [List.append_assoc, List.append_assoc]; exact .cons hi hn (ih h')
theorem FR.le {i s j s' N E} (h : FR D K B i s j s' N E) : i ≤ j := by induction h <;> omega
theorem FR.le_len {i s j s' N E} (h : FR D K B i s j s' N E) (hi : i ≤ B.length) : j ≤ B.length := by
  induction h with
  | refl => exact hi
  | cons h1 _ _ ih => exact ih h1
theorem FR.split {i s j s' N E} (h : FR D K B i s j s' N E) : ∀ m, i ≤ m → m ≤ j → ∃ t N1 E1 N2 E2, FR D K B i s m t N1 E1 ∧ FR D K B m t j s' N2 E2 ∧ N = N1 ++ N2 ∧ E = E1 ++ E2 := by
  induction h with
  | refl i s => intro m h1 h2; obtain rfl : m = i := by omega
                exact ⟨s, [], [], [], [], .refl _ _, .refl _ _, rfl, rfl⟩
  | @cons i s s' j s'' N E hi hn g ih =>
    intro m h1 h2
    by_cases hm : m = i
    · subst hm
      exact ⟨_, [], [], _, _, .refl _ _, .cons hi hn g, rfl, rfl⟩
    · obtain ⟨t, N1, E1, N2, E2, g1, g2, rfl, rfl⟩ := ih m (by omega) h2
      exact ⟨t, _, _, N2, E2, .cons hi hn g1, g2, (List.append_assoc _ _ _).symm, (List.append_assoc _ _ _).symm⟩

theorem settle_place (i : Nat) (st : List Fr) : (∀ n ∈ (settle (i + 1) st).2.1, n = (i, 7)) ∧ (∀ e ∈ (settle (i + 1) st).2.2, e.pl = i) := by
  induction st with
  | nil => exact ⟨fun n h => (by cases h), fun e h => (by cases h with | head => rfl | tail _ h => cases h)⟩
  | cons f st ih =>
    unfold settle
    split
    · refine ⟨fun n h => ?_, fun e h => ?_⟩
      · unfold onotes at h
        dsimp only at h
        split at h
        · exact List.mem_singleton.1 h
        · cases h
      · rw [List.mem_singleton.1 h]; rfl
    · split
      · refine ⟨ih.1, fun e h => ?_⟩
        rcases List.mem_cons.1 h with rfl | h
        · rfl
        · exact ih.2 e h
      · exact ⟨fun n h => (by cases h), fun e h => (by rw [List.mem_singleton.1 h]; rfl)⟩
theorem settle_set (i : Nat) (st : List Fr) : (settle i st).1.isEnded = false := by
  induction st with
  | nil => rfl
  | cons f st ih =>
    unfold settle
    split
    · rfl
    · split
      · exact ih
      · rfl
theorem settle_one (i : Nat) (st : List Fr) : (settle i st).2.1.length ≤ 1 := by
  induction st with
  | nil => exact Nat.zero_le _
  | cons f st ih =>
    unfold settle
    split
    · unfold onotes
      dsimp only
      split <;> simp
    · split
      · exact ih
      · exact Nat.zero_le _
/-- What is noted at a byte, in the order of the numbers. -/
theorem bstep_notes (i : Nat) (s : AQ) (c : Int) : (bstep D K i s c).notes.Pairwise (fun a b => a.2 ≤ b.2) ∧ (∀ n ∈ (bstep D K i s c).notes, n.1 = i ∧ 2 ≤ n.2 ∧ n.2 ≤ 6) ∧ (∀ e ∈ (bstep D K i s c).evs, e.pl = i) := by
  have hp : ∀ {x n : Note} {P : Prop} [Decidable P], n ∈ (if P then [x] else []) → n = x := fun h => (mem_ite.1 h).2
  have h1 : ∀ {x : Note} {P : Prop} [Decidable P], (if P then [x] else []).Pairwise (fun a b => a.2 ≤ b.2) := by intro x P _; split <;> simp
  unfold bstep
  split
  · dsimp only
    refine ⟨?_, ?_, ?_⟩
    · unfold hnotes
      rw [List.pairwise_append, List.pairwise_append, List.pairwise_append]
      refine ⟨h1, ⟨h1, ⟨h1, h1, ?_⟩, ?_⟩, ?_⟩
      · intro a ha b hb
        rw [hp ha, hp hb]; simp
      · intro a ha b hb
        rw [hp ha]
        rcases List.mem_append.1 hb with hb | hb <;> rw [hp hb] <;> simp
      · intro a ha b hb
        rw [hp ha]
        rcases List.mem_append.1 hb with hb | hb
        · rw [hp hb]; simp
        · rcases List.mem_append.1 hb with hb | hb <;> rw [hp hb] <;> simp
    · intro n hn
      rcases mem_hnotes.1 hn with ⟨_, h⟩ | ⟨_, _, h⟩ | h | ⟨_, h⟩
      · rw [h]; exact ⟨rfl, by simp, by simp⟩
      · rw [h]; exact ⟨rfl, by simp, by simp⟩
      · obtain ⟨h4, h5, h6, _⟩ := h
        rw [h4]
        exact ⟨by omega, by simp, by simp⟩
      · rw [h]; exact ⟨rfl, by simp, by simp⟩
    · intro e he
      split at he
      · rw [List.mem_singleton.1 he]
      · cases he
  · dsimp only
    refine ⟨?_, ?_, ?_⟩
    · unfold tnotes
      rw [List.pairwise_append]
      refine ⟨h1, h1, ?_⟩
      intro a ha b hb
      rw [hp ha, hp hb]; simp
    · intro n hn
      unfold tnotes at hn
      rcases List.mem_append.1 hn with h | h <;> rw [hp h] <;> exact ⟨rfl, by simp, by simp⟩
    · intro e he
      rw [List.mem_singleton.1 he]
  · exact ⟨.nil, fun n h => (by cases h), fun e h => (by cases h)⟩
  · refine ⟨by simp, fun n h => ?_, fun e h => (by cases h)⟩
    rw [List.mem_singleton.1 h]; exact ⟨rfl, by simp, by simp⟩
theorem fstep_notes (i : Nat) (s : AQ) (c : Int) : (fstep D K i s c).notes.Pairwise (fun a b => a.2 ≤ b.2) ∧ (∀ n ∈ (fstep D K i s c).notes, n.1 = i ∧ 2 ≤ n.2 ∧ n.2 ≤ 7) ∧ (∀ e ∈ (fstep D K i s c).evs, e.pl = i) := by
  obtain ⟨h1, h2, h3⟩ := bstep_notes (D := D) (K := K) i s c
  have h2' : ∀ n ∈ (bstep D K i s c).notes, n.1 = i ∧ 2 ≤ n.2 ∧ n.2 ≤ 7 := fun n hn => by have := h2 n hn; exact ⟨this.1, this.2.1, by omega⟩
  unfold fstep
  split
  · exact ⟨h1, h2', h3⟩
  · next s' _ =>
    split
    · have hp := settle_place i s'.st
      refine ⟨List.pairwise_append.2 ⟨h1, ?_, ?_⟩, ?_, ?_⟩
      · have := settle_one (i + 1) s'.st
        match (settle (i + 1) s'.st).2.1, this with
        | [], _ => exact .nil
        | [x], _ => simp
        | _ :: _ :: _, h => simp at h
      · intro a ha b hb
        have := h2 a ha
        rw [hp.1 b hb]
        show a.2 ≤ 7
        omega
      · intro n hn
        rcases List.mem_append.1 hn with h | h
        · exact h2' n h
        · rw [hp.1 n h]; exact ⟨rfl, by show (2 : Int) ≤ 7; decide, by show (7 : Int) ≤ 7; decide⟩
      · intro e he
        rcases List.mem_append.1 he with h | h
        · exact h3 e h
        · exact hp.2 e h
    · exact ⟨h1, h2', h3⟩
theorem FR.place {i s j s' N E} (h : FR D K B i s j s' N E) : (∀ n ∈ N, i ≤ n.1 ∧ n.1 < j) ∧ (∀ e ∈ E, i ≤ e.pl ∧ e.pl < j) := by
  induction h with
  | refl => exact ⟨fun n h => (by cases h), fun e h => (by cases h)⟩
  | @cons i s s' j s'' N E hi hn g ih =>
    have hl := g.le
    obtain ⟨_, k2, k3⟩ := fstep_notes (D := D) (K := K) i s (B.getD i 0)
    refine ⟨fun n h => ?_, fun e h => ?_⟩
    · rcases List.mem_append.1 h with h | h
      · have := (k2 n h).1; omega
      · have := ih.1 n h; omega
    · rcases List.mem_append.1 h with h | h
      · have := k3 e h; omega
      · have := ih.2 e h; omega

theorem isEnded_eq {s : AQ} (h : s.isEnded = true) : s = ⟨s.st, .ended⟩ := by
  obtain ⟨st, c⟩ := s
  cases c <;> first | rfl | cases h
theorem goes_fr {i s j s'' N E} (h : Goes D K B i s j s'' N E) (hs : s''.isEnded = false) :
    (s.isEnded = true → ∃ N2 E2, FR D K B i (settle i s.st).1 j s'' N2 E2 ∧ N = (settle i s.st).2.1 ++ N2 ∧ E = (settle i s.st).2.2 ++ E2) ∧ (s.isEnded = false → FR D K B i s j s'' N E) := by
  induction h with
  | refl i s => exact ⟨fun h => (by rw [hs] at h; cases h), fun _ => .refl _ _⟩
  | @byte i s s' j s'' N E hi hn g ih =>
    have hne : s.isEnded = false := by
      cases hq : s.isEnded with
      | false => rfl
      | true => rw [isEnded_eq hq] at hn; cases hn
    refine ⟨fun h => (by rw [hne] at h; cases h), fun _ => ?_⟩
    have hf : ∀ o, fstep D K i s (B.getD i 0) = o → o = if s'.isEnded then ⟨some (settle (i + 1) s'.st).1, (bstep D K i s (B.getD i 0)).notes ++ (settle (i + 1) s'.st).2.1, (bstep D K i s (B.getD i 0)).evs ++ (settle (i + 1) s'.st).2.2⟩ else bstep D K i s (B.getD i 0) := by
      rintro o rfl
      unfold fstep
      rw [hn]
    have hf := hf _ rfl
    cases hq : s'.isEnded with
    | true =>
      obtain ⟨N2, E2, g2, rfl, rfl⟩ := (ih hs).1 hq
      rw [hq, if_pos rfl] at hf
      have := FR.cons (D := D) (K := K) (s := s) hi (by rw [hf]) g2
      rw [hf] at this
      simpa only [List.append_assoc] using this
    | false =>
      have g2 := (ih hs).2 hq
      rw [hq, if_neg (by decide)] at hf
      have := FR.cons (D := D) (K := K) (s := s) hi (by rw [hf]; exact hn) g2
      rwa [hf] at this
  | @ende i s j s'' N E hn g ih =>
    refine ⟨fun _ => ?_, fun h => (by rw [hn] at h; cases h)⟩
    have ih := ih hs
    cases hst : s.st with
    | nil =>
      rw [hst] at ih g
      exact ⟨N, E, ih.2 rfl, rfl, rfl⟩
    | cons f st =>
      rw [hst, estep_cons] at ih
      rw [estep_cons]
      unfold settle
      cases hw : f.waits with
      | true =>
        rw [hw, if_pos rfl] at ih
        rw [if_pos rfl, if_pos rfl]
        exact ⟨N, E, ih.2 rfl, rfl, rfl⟩
      | false =>
        rw [hw, if_neg (by decide)] at ih
        rw [if_neg (show ¬ (false = true) by decide), if_neg (show ¬ (false = true) by decide)]
        by_cases hl : f.left = 1
        · rw [if_pos hl] at ih ⊢
          rw [if_pos hl]
          obtain ⟨N2, E2, g2, rfl, rfl⟩ := ih.1 rfl
          exact ⟨N2, E2, g2, rfl, rfl⟩
        · rw [if_neg hl] at ih ⊢
          rw [if_neg hl]
          exact ⟨N, E, ih.2 rfl, rfl, rfl⟩
theorem fstep_none {i s c} (h : (bstep D K i s c).next = none) : fstep D K i s c = bstep D K i s c := by unfold fstep; rw [h]
end
end Go.Proofs.Ytchhbcmkhbfpoaa
