/- Package auto: the machine's invariant; the verdict of a row of bytes, and of a longer one; texts as the document's answer sees them. -/
import Derived.Test.YtchhbcmkhbfpoaaKAN
import Derived.Lib.QuietBelow
import Derived.StillTail
import Derived.Deep.QuietTactic
import Derived.Still
import Derived.Test.YtchhbcmkhbfpoaaKAK
import Derived.Test.YtchhbcmkhbfpoaaKAI
namespace Go.Proofs.Ytchhbcmkhbfpoaa

/-- What a text's note is. -/
theorem unotes_uat (wh : Bool) (xs : List Int) : ∀ (u : UQ) (i k : Nat), u.wr = false →
    (∃ p : Nat, uat u xs k = ((k + p : Nat) : Int) ∧ p < xs.length ∧ unotes wh u xs i = [(i + p, 6)]) ∨
    (uat u xs k = -1 ∧ unotes wh u xs i = (if wh = true ∧ xs ≠ [] ∧ uok u xs = false then [(i + xs.length - 1, 6)] else [])) := by
  induction xs with
  | nil => intro u i k hu; exact .inr ⟨rfl, by simp [unotes]⟩
  | cons c r ih =>
    intro u i k hu
    rw [unotes_cons]
    have e1 : uat u (c :: r) k = if (ustep u c).wr then (k : Int) else uat (ustep u c) r (k + 1) := rfl
    have e2 : uok u (c :: r) = uok (ustep u c) r := rfl
    rw [e1, e2, hu]
    have hwr : ∀ (xs : List Int) (u : UQ) (i : Nat), u.wr = true → unotes wh u xs i = [] := by
      intro xs
      induction xs with
      | nil => intro u i h; rfl
      | cons c r ih =>
        intro u i h
        rw [unotes_cons, h, ih _ _ (by unfold ustep; rw [if_pos h]; exact h)]
        rfl
    cases hw : (ustep u c).wr with
    | true =>
      left
      refine ⟨0, by rw [if_pos rfl]; rfl, by simp, ?_⟩
      rw [hwr r _ _ hw]
      rfl
    | false =>
      rw [if_neg (show ¬ (false = true) by decide)]
      rcases ih (ustep u c) (i + 1) (k + 1) hw with ⟨p, h1, h2, h3⟩ | ⟨h1, h3⟩
      · left
        refine ⟨p + 1, by rw [h1]; congr 1; omega, by simp; omega, ?_⟩
        rw [h3]
        have hr : r.isEmpty = false := by cases r; simp at h2; rfl
        rw [hr]
        simp
        omega
      · right
        refine ⟨h1, ?_⟩
        rw [h3]
        cases r with
        | nil =>
          have : uok (ustep u c) [] = udone (ustep u c) := rfl
          rw [this]
          cases wh <;> cases udone (ustep u c) <;> simp
        | cons c' r' =>
          simp
          by_cases h : wh = true ∧ uok (ustep u c) (c' :: r') = false
          · rw [if_pos h, if_pos h]
            congr 2
            omega
          · rw [if_neg h, if_neg h]

/-- The verdict of the bytes from place i on: the error, the place. -/
noncomputable def svrd (D K S : Nat) : Nat → AQ → List Int → Int × Nat
  | i, s, [] => if s.isFin then (0, 0) else (9, i)
  | i, s, c :: r => if S ≤ i then (1, i) else match (fstep D K i s c).notes, (fstep D K i s c).next with
    | n :: _, _ => (n.2, i)
    | [], some s' => svrd D K S (i + 1) s' r
    | [], none => (2, i)
section
variable {D K S : Nat}
theorem svrd_cons (i : Nat) (s : AQ) (c : Int) (r : List Int) : svrd D K S i s (c :: r) = if S ≤ i then (1, i) else match (fstep D K i s c).notes, (fstep D K i s c).next with
    | n :: _, _ => (n.2, i)
    | [], some s' => svrd D K S (i + 1) s' r
    | [], none => (2, i) := rfl
theorem svrd_range (b : List Int) : ∀ (i : Nat) (s : AQ), (svrd D K S i s b = (0, 0) ∨ svrd D K S i s b = (9, i + b.length) ∨ (1 ≤ (svrd D K S i s b).1 ∧ (svrd D K S i s b).1 ≤ 7 ∧ i ≤ (svrd D K S i s b).2 ∧ (svrd D K S i s b).2 < i + b.length)) := by
  induction b with
  | nil => intro i s; unfold svrd; split <;> simp
  | cons c r ih =>
    intro i s
    rw [svrd_cons]
    have hf := (fstep_notes (D := D) (K := K) i s c).2.1
    split
    · simp
    · cases hx : (fstep D K i s c).notes with
      | cons n t =>
        have := hf n (by rw [hx]; exact List.mem_cons_self)
        right; right
        dsimp only
        simp only [List.length_cons]
        omega
      | nil =>
        cases hy : (fstep D K i s c).next with
        | none => right; right; dsimp only; simp only [List.length_cons]; omega
        | some s' =>
          dsimp only
          rcases ih (i + 1) s' with h | h | h
          · exact .inl h
          · right; left; rw [h]; congr 1; simp only [List.length_cons]; omega
          · right; right; simp only [List.length_cons]; omega
theorem fr_svrd {B : List Int} {i s j s' N E} (h : FR D K B i s j s' N E) : N = [] → j ≤ S → svrd D K S i s (B.drop i) = svrd D K S j s' (B.drop j) := by
  induction h with
  | refl => intro _ _; rfl
  | @cons i s s' j s'' N E hi hn g ih =>
    intro hN hj
    obtain ⟨h1, h2⟩ := List.append_eq_nil_iff.1 hN
    have e : B.drop i = B.getD i 0 :: B.drop (i + 1) := by
      rw [List.drop_eq_getElem_cons hi, List.getD_eq_getElem?_getD, List.getElem?_eq_getElem hi]
      rfl
    have := g.le
    rw [e, svrd_cons, if_neg (by omega), h1, hn]
    exact ih h2 hj
/-- The document's verdict is the machine's. -/
theorem verdict_eq (B : List Int) : svrd D K S 0 aq0 B = (match firstN none (scNotes B D K S) with
    | some m => (m.2, m.1)
    | none => if (scTop B D K).ok then (0, 0) else (9, B.length)) := by
  rcases firstN_none (scNotes B D K S) with ⟨h, h'⟩ | ⟨k, hf, hk, hl⟩
  · rw [h']
    obtain ⟨s, E1, E2, hA⟩ := ahead_of (D := D) (K := K) (S := S) (B := B) B.length (Nat.le_refl _) (fun n hn => by rw [h] at hn; cases hn)
    have hS : B.length ≤ S := by
      apply Classical.byContradiction
      intro hlt
      have : (S, 1) ∈ scNotes B D K S := by unfold scNotes; rw [if_pos (show S < B.length by omega)]; simp
      rw [h] at this; cases this
    have := fr_svrd (S := S) hA.run rfl hS
    rw [List.drop_zero] at this
    rw [this, List.drop_length]
    show (if s.isFin then ((0 : Int), 0) else (9, B.length)) = if (scTop B D K).ok then (0, 0) else (9, B.length)
    have hfin := hA.fin
    cases hok : (scTop B D K).ok with
    | true =>
      have hto : (scTop B D K).to = B.length := by
        obtain ⟨w, sw, N, hw, g, hst, hN, hfn, hto⟩ := top_run (D := D) (K := K) (B := B)
        have e := hto hok
        apply Classical.byContradiction
        intro hne
        have hlt : (scTop B D K).to < B.length := by omega
        have : ((scTop B D K).to, 2) ∈ scNotes B D K S := by unfold scNotes; rw [if_pos ⟨hok, hlt⟩]; simp
        rw [h] at this; cases this
      rw [hfin.2 ⟨hok, hto⟩]
    | false =>
      have : s.isFin = false := by
        cases hq : s.isFin with
        | false => rfl
        | true => have := (hfin.1 hq).1; rw [hok] at this; cases this
      rw [this]
  · rw [hf]
    have ⟨hlt, hk1⟩ := first_lt hk hl
    have hall : ∀ n ∈ scNotes B D K S, k.1 ≤ n.1 := fun n hn => by have := hl n hn; unfold Note.leq at this; omega
    obtain ⟨s, E1, E2, hA⟩ := ahead_of (D := D) (K := K) (S := S) (B := B) k.1 (by omega) hall
    have hkS : k.1 ≤ S := by
      apply Classical.byContradiction
      intro hlt'
      have : (S, 1) ∈ scNotes B D K S := by unfold scNotes; rw [if_pos (show S < B.length by omega)]; simp
      have := hall _ this
      simp only at this
      omega
    have := fr_svrd (S := S) hA.run rfl hkS
    rw [List.drop_zero] at this
    rw [this]
    have e : B.drop k.1 = B.getD k.1 0 :: B.drop (k.1 + 1) := by
      rw [List.drop_eq_getElem_cons hlt, List.getD_eq_getElem?_getD, List.getElem?_eq_getElem hlt]
      rfl
    rw [e, svrd_cons]
    obtain ⟨b1, b2⟩ := hA.bad hlt ⟨k, hk, rfl⟩
    dsimp only
    by_cases hS : S ≤ k.1
    · rw [if_pos hS]
      have h1 := hl _ (b1 hS)
      unfold Note.leq at h1
      simp only [Prod.mk.injEq, and_true]
      omega
    · rw [if_neg hS]
      obtain ⟨e, r, hx, hm, hle⟩ := b2 (by omega)
      rw [hx]
      dsimp only
      have h1 := hl _ hm
      have h2 := hle k hk rfl
      unfold Note.leq at h1
      simp only [Prod.mk.injEq, and_true]
      omega
/-- What follows plays no part where a byte is wrong; and what there is behind a whole item is wrong. -/
theorem svrd_append (b more : List Int) : ∀ (i : Nat) (s : AQ),
    (1 ≤ (svrd D K S i s b).1 ∧ (svrd D K S i s b).1 ≤ 7 → svrd D K S i s (b ++ more) = svrd D K S i s b) ∧
    ((svrd D K S i s b).1 = 0 → more ≠ [] → svrd D K S i s (b ++ more) = (1, i + b.length) ∨ svrd D K S i s (b ++ more) = (2, i + b.length)) ∧
    ((svrd D K S i s b).1 = 9 → svrd D K S i s (b ++ more) = (0, 0) ∨ i + b.length ≤ (svrd D K S i s (b ++ more)).2) := by
  induction b with
  | nil =>
    intro i s
    have e : svrd D K S i s [] = if s.isFin then (0, 0) else (9, i) := rfl
    rw [List.nil_append, e]
    cases hf : s.isFin with
    | true =>
      rw [if_pos rfl]
      refine ⟨fun h => by simp at h, fun _ hm => ?_, fun h => by simp at h⟩
      cases more with
      | nil => exact absurd rfl hm
      | cons c r =>
        have hs : s = ⟨s.st, .fin⟩ := by
          obtain ⟨st, k⟩ := s
          cases k <;> first | rfl | cases hf
        rw [svrd_cons]
        split
        · exact .inl rfl
        · right
          have : (fstep D K i s c).notes = [(i, 2)] := by rw [hs]; rfl
          rw [this]
          rfl
    | false =>
      rw [if_neg (by decide)]
      refine ⟨fun h => by simp at h, fun h => by simp at h, fun _ => ?_⟩
      rcases svrd_range (D := D) (K := K) (S := S) more i s with h | h | h
      · exact .inl h
      · rw [h]; right; simp
      · right; simp; omega
  | cons c r ih =>
    intro i s
    rw [List.cons_append, svrd_cons, svrd_cons]
    split
    · exact ⟨fun _ => rfl, fun h => by simp at h, fun h => by simp at h⟩
    · have hf := (fstep_notes (D := D) (K := K) i s c).2.1
      cases hx : (fstep D K i s c).notes with
      | cons n t =>
        have := hf n (by rw [hx]; exact List.mem_cons_self)
        dsimp only
        exact ⟨fun _ => rfl, fun h => by omega, fun h => by omega⟩
      | nil =>
        cases hy : (fstep D K i s c).next with
        | none => dsimp only; exact ⟨fun _ => rfl, fun h => by omega, fun h => by omega⟩
        | some s' =>
          dsimp only
          have := ih (i + 1) s'
          simp only [List.length_cons]
          rw [show i + (r.length + 1) = i + 1 + r.length by omega]
          exact this
end

/-- A head's reader that is well. -/
structure HInv (q : HQ) : Prop where
  wrong : q.wrong = 0
  arg0 : 0 ≤ q.arg
  arg1 : q.arg < 18446744073709551616
  left : q.opn = true → 1 ≤ q.left ∧ q.left ≤ 8
theorem HInv.zero : HInv hq0 := ⟨rfl, by decide, by decide, fun h => by cases h⟩
theorem hbad_cases (m i : Int) : hbad m i = 0 ∨ hbad m i = 2 ∨ hbad m i = 5 := by unfold hbad; split <;> (try split) <;> simp
theorem hwid_range (i : Int) : 0 ≤ hwid i ∧ hwid i ≤ 8 := by by_cases h1 : i = 24 <;> by_cases h2 : i = 25 <;> by_cases h3 : i = 26 <;> by_cases h4 : i = 27 <;> simp [hwid, h1, h2, h3, h4]
/-- What a byte comes to for a reader that is well. -/
theorem HInv.mid {q : HQ} (h : HInv q) {c : Int} (_ : 0 ≤ c) (_ : c < 256) :
    ((hmid q c).wrong = 0 ∨ (hmid q c).wrong = 2 ∨ (hmid q c).wrong = 5) ∧ 0 ≤ (hmid q c).arg ∧ (hmid q c).arg < 18446744073709551616 ∧ (hmid q c).opn = true ∧ 0 ≤ (hmid q c).left ∧ (hmid q c).left ≤ 8 := by
  unfold hmid
  rw [if_neg (by rw [h.wrong]; simp)]
  split
  · next ho =>
    have hl := h.left ho
    have hw := h.wrong
    unfold hfollow
    dsimp only
    have := Int.emod_nonneg (q.arg * 256 + c) (show (18446744073709551616 : Int) ≠ 0 by decide)
    have := Int.emod_lt_of_pos (q.arg * 256 + c) (show (0 : Int) < 18446744073709551616 by decide)
    generalize (q.arg * 256 + c) % 18446744073709551616 = y at *
    refine ⟨?_, by omega, by omega, ho, by omega, by omega⟩
    split
    · exact .inr (.inl rfl)
    · exact .inl hw
  · unfold hbegin hbeg
    have hb := hbad_cases (c / 32) (c % 32)
    have hw := hwid_range (c % 32)
    split
    · exact ⟨hb, by simp, by simp, rfl, by simp, by simp⟩
    · split
      · exact ⟨.inl rfl, by dsimp only; omega, by dsimp only; omega, rfl, by simp, by simp⟩
      · exact ⟨.inl rfl, by simp, by simp, rfl, hw.1, hw.2⟩
theorem HInv.next {q : HQ} (h : HInv q) {c : Int} (h0 : 0 ≤ c) (h1 : c < 256) (hd : hdone q c = false) (he : herr q c = 0) : HInv (hstep q c) ∧ (hstep q c).opn = true := by
  obtain ⟨k1, k2, k3, k4, k5, k6⟩ := h.mid h0 h1
  unfold hdone at hd
  have hm : (hmid q c).more := by
    apply Classical.byContradiction
    intro hn
    rw [decide_eq_false hn] at hd
    cases hd
  unfold herr at he
  rw [if_pos hm] at he
  unfold hstep
  rw [if_pos hm]
  refine ⟨⟨he, k2, k3, fun _ => ⟨?_, k6⟩⟩, k4⟩
  rcases hm with hm | hm
  · exact absurd he hm
  · omega
theorem HInv.done {q : HQ} (h : HInv q) {c : Int} (h0 : 0 ≤ c) (h1 : c < 256) (hd : hdone q c = true) : HInv (hstep q c) ∧ (hstep q c).opn = false := by
  obtain ⟨k1, k2, k3, k4, k5, k6⟩ := h.mid h0 h1
  unfold hdone at hd
  have hm : ¬ (hmid q c).more := by
    intro hn
    rw [decide_eq_true hn] at hd
    cases hd
  unfold hstep
  rw [if_neg hm]
  refine ⟨⟨?_, k2, k3, fun h => by cases h⟩, rfl⟩
  apply Classical.byContradiction
  intro hn
  exact hm (.inl hn)
theorem HInv.err {q : HQ} (h : HInv q) {c : Int} (h0 : 0 ≤ c) (h1 : c < 256) : herr q c = 0 ∨ herr q c = 2 ∨ herr q c = 5 := by
  obtain ⟨k1, _⟩ := h.mid h0 h1
  unfold herr
  split
  · exact k1
  · split <;> simp

structure FrOk (K : Nat) (f : Fr) : Prop where
  kind : f.kind = 4 ∨ f.kind = 5 ∨ f.kind = 6
  left0 : 1 ≤ f.left
  left1 : f.left < 18446744073709551616
  half : f.half = true → f.kind = 5
  cur : f.cur.length ≤ K
  last : f.last.length ≤ K
  bcur : ByteL f.cur
  blast : ByteL f.last
/-- The machine's invariant, as long as nothing is wrong. -/
structure AOk (D K : Nat) (s : AQ) : Prop where
  len : s.st.length ≤ D
  frs : ∀ f ∈ s.st, FrOk K f
  ctl : (∃ q, s.ctl = .head q ∧ HInv q ∧ (q.opn = true → s.st.length < D)) ∨ (∃ n t u, s.ctl = .text n t u ∧ 1 ≤ n ∧ n < 18446744073709551616 ∧ u.wr = false ∧ s.st.length < D) ∨ (s.ctl = .fin ∧ s.st = [])
theorem AOk.zero (D K : Nat) : AOk D K aq0 := ⟨Nat.zero_le _, fun f h => (by cases h), .inl ⟨hq0, rfl, .zero, fun h => by cases h⟩⟩
section
variable {D K : Nat}
theorem FrOk.feeds {f : Fr} {c : Int} (h : FrOk K f) (hf : f.full K = false) (h0 : 0 ≤ c) (h1 : c < 256) : FrOk K (f.feeds [c]) := by
  by_cases hw : f.waits = true
  · have e : f.feeds [c] = { f with cur := f.cur ++ [c] } := if_pos hw
    unfold Fr.full at hf
    rw [hw, Bool.true_and] at hf
    have hl := h.cur
    have hne : f.cur.length ≠ K := by simpa using hf
    rw [e]
    exact ⟨h.kind, h.left0, h.left1, h.half, by simp; omega, h.last, fun x hx => by
      rcases List.mem_append.1 hx with hx | hx
      · exact h.bcur x hx
      · rw [List.mem_singleton.1 hx]; exact ⟨h0, h1⟩, h.blast⟩
  · rw [show f.feeds [c] = f from if_neg hw]; exact h
theorem FrOk.keyed {f : Fr} (h : FrOk K f) (hw : f.waits = true) : FrOk K f.keyed := by
  unfold Fr.waits at hw
  simp at hw
  exact ⟨h.kind, h.left0, h.left1, fun _ => hw.1, Nat.zero_le _, h.cur, fun x hx => (by cases hx), h.bcur⟩
theorem FrOk.less {f : Fr} (h : FrOk K f) (hl : f.left ≠ 1) : FrOk K f.less :=
  ⟨h.kind, by show 1 ≤ f.left - 1; have := h.left0; omega, by show f.left - 1 < _; have := h.left1; omega, fun h' => (by cases h'), h.cur, h.last, h.bcur, h.blast⟩
theorem AOk.settle {i : Nat} (st : List Fr) (hl : st.length ≤ D) (hf : ∀ f ∈ st, FrOk K f) : AOk D K (settle i st).1 := by
  induction st with
  | nil => exact ⟨Nat.zero_le _, fun f h => (by cases h), .inr (.inr ⟨rfl, rfl⟩)⟩
  | cons f st ih =>
    have hf0 := hf f List.mem_cons_self
    have hf' : ∀ g ∈ st, FrOk K g := fun g hg => hf g (List.mem_cons_of_mem _ hg)
    simp only [List.length_cons] at hl
    unfold Go.Proofs.Ytchhbcmkhbfpoaa.settle
    split
    · next hw => exact ⟨by simp only [begins, List.length_cons]; exact hl, fun g hg => (by
        rcases List.mem_cons.1 hg with rfl | hg
        · exact hf0.keyed hw
        · exact hf' g hg), .inl ⟨hq0, rfl, .zero, fun h => by cases h⟩⟩
    · split
      · exact ih (by omega) hf'
      · next hl1 => exact ⟨by simp only [begins, List.length_cons]; exact hl, fun g hg => (by
          rcases List.mem_cons.1 hg with rfl | hg
          · exact hf0.less hl1
          · exact hf' g hg), .inl ⟨hq0, rfl, .zero, fun h => by cases h⟩⟩
theorem any_full {st : List Fr} (h : st.any (Fr.full K) = false) : ∀ f ∈ st, f.full K = false := fun f hf => by
  have := List.any_eq_false.1 h f hf
  simpa using this
theorem ite_nil {P : Prop} [Decidable P] {x : Note} (h : (if P then [x] else []) = []) : ¬ P := fun hp => by rw [if_pos hp] at h; cases h
theorem AOk.bstep {i : Nat} {s : AQ} {c : Int} (h : AOk D K s) (h0 : 0 ≤ c) (h1 : c < 256) (hn : (bstep D K i s c).notes = []) :
    ∃ s', (bstep D K i s c).next = some s' ∧ s'.st.length ≤ D ∧ (∀ f ∈ s'.st, FrOk K f) ∧ (s'.isEnded = false → AOk D K s') := by
  obtain ⟨st, k⟩ := s
  obtain ⟨hl, hf, hc⟩ := h
  dsimp only at hl hf hc
  rcases hc with ⟨q, rfl, hq, ho⟩ | ⟨n, t, u, rfl, hn1, hn2, hu, hlt⟩ | ⟨rfl, rfl⟩
  · have hb : (Go.Proofs.Ytchhbcmkhbfpoaa.bstep D K i ⟨st, .head q⟩ c) = ⟨if hdone q c then some (enter (st.map (Fr.feeds [c])) (hstep q c).major (hstep q c).arg) else if herr q c = 0 then some ⟨st.map (Fr.feeds [c]), .head (hstep q c)⟩ else none,
      hnotes D K i st q c, if hdone q c then [⟨1, (hstep q c).major, (hstep q c).width, (hstep q c).arg, 0, st.length + 1, i⟩] else []⟩ := rfl
    rw [hb] at hn ⊢
    dsimp only at hn ⊢
    unfold hnotes at hn
    simp only [List.append_eq_nil_iff] at hn
    obtain ⟨n2, n3, n4, n5⟩ := hn
    have n2 := ite_nil n2
    have n3 := ite_nil n3
    have n4 := any_full (by simpa using ite_nil n4)
    have n5 := ite_nil n5
    have he : herr q c = 0 := by rcases hq.err h0 h1 with h | h | h; exact h; exact absurd h n2; exact absurd h n5
    have hlt : st.length < D := by
      cases hop : q.opn with
      | true => exact ho hop
      | false => simp [hop] at n3; omega
    have hff : ∀ f ∈ st.map (Fr.feeds [c]), FrOk K f := fun f hfm => by
      obtain ⟨g, hg, rfl⟩ := List.mem_map.1 hfm
      exact (hf g hg).feeds (n4 g hg) h0 h1
    have hml : (st.map (Fr.feeds [c])).length = st.length := List.length_map _
    cases hd : hdone q c with
    | false =>
      rw [if_neg (by decide), if_pos he]
      obtain ⟨k1, k2⟩ := hq.next h0 h1 hd he
      exact ⟨_, rfl, by dsimp only; omega, hff, fun _ => ⟨by dsimp only; omega, hff, .inl ⟨_, rfl, k1, fun _ => by dsimp only; omega⟩⟩⟩
    | true =>
      rw [if_pos rfl]
      obtain ⟨k1, k2⟩ := hq.done h0 h1 hd
      generalize st.map (Fr.feeds [c]) = st' at *
      generalize hstep q c = q' at *
      have hpush : ∀ f, FrOk K f → AOk D K (begins (f :: st')) := fun f hf1 => ⟨by simp only [begins, List.length_cons]; omega, fun g hg => (by
        rcases List.mem_cons.1 hg with rfl | hg
        · exact hf1
        · exact hff g hg), .inl ⟨hq0, rfl, .zero, fun h => by cases h⟩⟩
      have hnb : ByteL ([] : List Int) := fun x hx => by cases hx
      refine ⟨_, rfl, ?_⟩
      unfold enter
      split
      · split
        · exact ⟨by dsimp only; omega, hff, fun h => by cases h⟩
        · next ha => exact ⟨by dsimp only; omega, hff, fun _ => ⟨by dsimp only; omega, hff, .inr (.inl ⟨_, _, _, rfl, by have := k1.arg0; omega, k1.arg1, rfl, by dsimp only; omega⟩)⟩⟩
      · split
        · next hm => split
                     · exact ⟨by dsimp only; omega, hff, fun h => by cases h⟩
                     · next ha =>
                       have := hpush ⟨q'.major, q'.arg, false, [], [], false⟩ ⟨by dsimp only; omega, by have := k1.arg0; dsimp only; omega, k1.arg1, fun h => (by cases h), Nat.zero_le _, Nat.zero_le _, hnb, hnb⟩
                       exact ⟨this.len, this.frs, fun _ => this⟩
        · split
          · have := hpush ⟨6, 1, false, [], [], false⟩ ⟨.inr (.inr rfl), by decide, by decide, fun h => (by cases h), Nat.zero_le _, Nat.zero_le _, hnb, hnb⟩
            exact ⟨this.len, this.frs, fun _ => this⟩
          · exact ⟨by dsimp only; omega, hff, fun h => by cases h⟩
  · have hb : (Go.Proofs.Ytchhbcmkhbfpoaa.bstep D K i ⟨st, .text n t u⟩ c) = ⟨some (if n = 1 then ⟨st.map (Fr.feeds [c]), .ended⟩ else ⟨st.map (Fr.feeds [c]), .text (n - 1) t (if t then ustep u c else u)⟩), tnotes K i st n t u c, [⟨2, 0, 0, 0, c, st.length + 1, i⟩]⟩ := rfl
    rw [hb] at hn ⊢
    dsimp only at hn ⊢
    unfold tnotes at hn
    simp only [List.append_eq_nil_iff] at hn
    obtain ⟨n4, n6⟩ := hn
    have n4 := any_full (by simpa using ite_nil n4)
    have n6 := ite_nil n6
    have hff : ∀ f ∈ st.map (Fr.feeds [c]), FrOk K f := fun f hfm => by
      obtain ⟨g, hg, rfl⟩ := List.mem_map.1 hfm
      exact (hf g hg).feeds (n4 g hg) h0 h1
    have hml : (st.map (Fr.feeds [c])).length = st.length := List.length_map _
    refine ⟨_, rfl, ?_⟩
    split
    · exact ⟨by dsimp only; omega, hff, fun h => by cases h⟩
    · refine ⟨by dsimp only; omega, hff, fun _ => ⟨by dsimp only; omega, hff, .inr (.inl ⟨_, _, _, rfl, by omega, by omega, ?_, by dsimp only; omega⟩)⟩⟩
      cases t with
      | false => exact hu
      | true =>
        rw [if_pos rfl]
        cases hw : (ustep u c).wr with
        | false => rfl
        | true => exact absurd (by simp [hu, hw]) n6
  · cases hn
theorem AOk.step {i : Nat} {s : AQ} {c : Int} (h : AOk D K s) (h0 : 0 ≤ c) (h1 : c < 256) (hn : (fstep D K i s c).notes = []) : ∃ s', (fstep D K i s c).next = some s' ∧ AOk D K s' := by
  unfold fstep at hn ⊢
  cases hx : (Go.Proofs.Ytchhbcmkhbfpoaa.bstep D K i s c).next with
  | none =>
    rw [hx] at hn
    obtain ⟨s', h', _⟩ := h.bstep (i := i) h0 h1 hn
    rw [hx] at h'; cases h'
  | some s' =>
    rw [hx] at hn
    dsimp only at hn ⊢
    cases he : s'.isEnded with
    | true =>
      rw [he, if_pos rfl] at hn
      rw [if_pos rfl]
      dsimp only at hn ⊢
      obtain ⟨s2, h', h2, h3, _⟩ := h.bstep (i := i) h0 h1 (List.append_eq_nil_iff.1 hn).1
      rw [hx] at h'; injection h' with h'; subst h'
      exact ⟨_, rfl, AOk.settle _ h2 h3⟩
    | false =>
      rw [he, if_neg (by decide)] at hn
      rw [if_neg (by decide)]
      obtain ⟨s2, h', _, _, h4⟩ := h.bstep (i := i) h0 h1 hn
      have h5 := h'
      rw [hx] at h5; injection h5 with h5; subst h5
      exact ⟨s', h', h4 he⟩
end
end Go.Proofs.Ytchhbcmkhbfpoaa

/- Below, with the count of draws: it never goes down. -/
namespace Go.Proofs.Ytchhbcmkhbfpoaa
open Go.RowKit Go.Sort

theorem viewStore_drawn {P : Program} {w w' : World} {at_ : Addr} {u : TypeId} {k : Addr} {v : Value} {m : Bool} {l : List Addr} (h : w.viewStore P at_ u k v m = .ok (w', l)) : w'.drawn = w.drawn := by
  unfold World.viewStore at h
  simp only [bind, Except.bind, pure, Except.pure] at h
  repeat' (first | (split at h) | (cases h; rfl) | (cases h))
theorem farStore_drawn {P : Program} {w w' : World} {a : Addr} {v : Value} {m : Bool} {l : List Addr} (h : w.farStore P a v m = .ok (w', l)) : w'.drawn = w.drawn := by
  unfold World.farStore at h
  split at h
  · split at h
    · rename_i r hr
      cases h
      exact viewStore_drawn hr
    · cases h
  · cases h
theorem ask_drawn {α : Type} : ∀ (a : Ask α) (w : World), w.drawn ≤ (w.ask a).2.drawn
  | .done _, w => by simp [World.ask]
  | .ask what range k, w => by
    rw [World.ask]
    split
    · exact ask_drawn _ _
    · exact Nat.le_trans (Nat.le_succ _) (ask_drawn _ { w with drawn := w.drawn + 1 })
theorem sys_drawn (w : World) (c : Sys) : w.drawn ≤ (w.sys c).2.drawn := by
  unfold World.sys
  have := ask_drawn (Kernel.perform c w.os) w
  split
  · exact Nat.le_refl _
  · rename_i h
    rw [h] at this
    exact this
/-- No run lowers the count of draws. -/
theorem run_drawn {α : Type} {P : Program} : ∀ (s : Sem α) {w w' : World} {a : α}, s.run P w = .ok a w' → w.drawn ≤ w'.drawn := by
  intro s
  induction s with
  | pure a => intro w w' b h; cases h; exact Nat.le_refl _
  | load m a k ih =>
    intro w w' b h
    rw [Sem.run] at h
    split at h
    · exact ih _ h
    · split at h
      · exact ih _ h
      · cases h
  | store m a v k ih =>
    intro w w' b h
    rw [Sem.run.eq_def] at h
    split at h <;> first | contradiction | (rename_i heq; cases heq)
    split at h
    · split at h
      · cases h
      · have := ih h
        exact this
    · split at h
      · rename_i e
        have h1 := ih h
        rw [farStore_drawn e] at h1
        exact h1
      · cases h
  | new o k ih => intro w w' b h; rw [Sem.run] at h; have := ih _ h; exact this
  | shape r k ih => intro w w' b h; rw [Sem.run] at h; exact ih _ h
  | freeze a n k ih =>
    intro w w' b h
    rw [Sem.run] at h
    have := ih h
    unfold World.freeze at this
    split at this <;> exact this
  | frozen a k ih => intro w w' b h; rw [Sem.run] at h; exact ih _ h
  | getObj r k ih =>
    intro w w' b h
    rw [Sem.run] at h
    split at h
    · cases h
    · exact ih _ h
    · cases h
  | setObj r o k ih =>
    intro w w' b h
    rw [Sem.run] at h
    split at h
    · cases h
    · have := ih h
      exact this
    · cases h
  | choose q k ih =>
    intro w w' b h
    rw [Sem.run] at h
    split at h
    · exact ih _ h
    · have := ih _ h
      exact Nat.le_trans (Nat.le_succ _) this
  | sys c k ih => intro w w' b h; rw [Sem.run] at h; exact Nat.le_trans (sys_drawn w c) (ih _ h)
  | program k ih => intro w w' b h; rw [Sem.run] at h; exact ih _ h
  | mark m k ih => intro w w' b h; rw [Sem.run] at h; exact ih h
  | halt e => intro w w' b h; cases h

/-- Below block number B the world is as it was, and no draw is taken back. -/
structure Bel (B : Nat) (w w' : World) : Prop extends Below B w w' where
  dr : w.drawn ≤ w'.drawn
section
variable {B B' : Nat} {a b c w w' : World}
instance : CoeOut (Bel B w w') (Below B w w') := ⟨Bel.toBelow⟩
theorem Bel.refl (B : Nat) (w : World) : Bel B w w := ⟨Below.refl B w, Nat.le_refl _⟩
theorem Bel.trans (h : Bel B a b) (k : Bel B b c) : Bel B a c := ⟨h.toBelow.trans k.toBelow, Nat.le_trans h.dr k.dr⟩
theorem Bel.mono (h : Bel B a b) (hB : B' ≤ B) : Bel B' a b := ⟨h.toBelow.mono hB, h.dr⟩
theorem Bel.alloc (h : Bel B a w) (hB : B ≤ w.heap.size) (o : Obj) : Bel B a (w.alloc o) := ⟨h.toBelow.alloc hB o, h.dr⟩
theorem Bel.drewN (h : Bel B a w) (n : Nat) : Bel B a (w.drewN n) := ⟨below_drawnN h.toBelow n, Nat.le_trans h.dr (Nat.le_add_right _ _)⟩
theorem Bel.setCell (h : Bel B a w) {p : Addr} (hp : B ≤ p.block) (u : Value) : Bel B a (w.setCell p u) := ⟨h.toBelow.setCell hp u, h.dr⟩
theorem Bel.of_run {α : Type} {P : Program} {s : Sem α} {v : α} (hr : s.run P w = .ok v w') (hb : Below B w w') : Bel B w w' := ⟨hb, run_drawn s hr⟩
theorem bel_alloc (w : World) (o : Obj) : Bel w.heap.size w (w.alloc o) := ⟨below_alloc w o, Nat.le_refl _⟩
/-- Such a world is the old one, some draws on, with blocks behind it. -/
theorem Bel.grow (h : Bel w.heap.size w w') : ∃ q os, w' = grow (w.drewN q) os := by
  obtain ⟨⟨d, os⟩, e⟩ := regrown_of_below h.toBelow
  have hd : w.drawn ≤ d := by
    have := h.dr
    rw [e] at this
    exact this
  refine ⟨d - w.drawn, os, ?_⟩
  rw [e]
  show Sort.grow { w with drawn := d } os = Sort.grow { w with drawn := w.drawn + (d - w.drawn) } os
  rw [Nat.add_sub_cancel' hd]
theorem bel_grow (w : World) (q : Nat) (os : Array Obj) : Bel w.heap.size w (Sort.grow (w.drewN q) os) :=
  ⟨⟨rfl, rfl, rfl, by simp [Sort.grow], fun k hk => by simp [Sort.grow, Array.getElem?_append, hk]⟩, Nat.le_add_right _ _⟩
end
end Go.Proofs.Ytchhbcmkhbfpoaa

/- A region that draws its order: first operations that only read, and calls that only read and draw, in any order; then the others, one by one. One walk in the order of the text serves every order. -/
namespace Go.Proofs.Ytchhbcmkhbfpoaa
open Go

section
variable {P : Program} {ops : Array Oper} {md : Region.Mode} {C : World → Prop}

/-- f operations come up, all ahead of number n, whatever their order; then L holds. -/
def headQ (P : Program) (md : Region.Mode) (ops : Array Oper) (C : World → Prop) (n : Nat) (L : Array Bool → Act → Prop) : Nat → Array Bool → Act → Prop
  | 0, seen, a => L seen a
  | f + 1, seen, a => Region.ready md ops seen ≠ [] ∧ ∀ i, i ∈ Region.ready md ops seen → i < n ∧ qOp P ops C i (fun b => headQ P md ops C n L f (seen.setIfInBounds i true) b) a

theorem any_of_headQ {n g : Nat} {L : Array Bool → Act → Prop} {R : Exit → Act → World → Prop} (hL : ∀ seen a w, C w → L seen a → wpAny P md ops R g seen a w) (f : Nat) :
    ∀ (seen : Array Bool) (a : Act) (w : World), C w → headQ P md ops C n L f seen a → wpAny P md ops R (f + g) seen a w := by
  induction f with
  | zero => intro seen a w hw h; rw [Nat.zero_add]; exact hL _ _ _ hw h
  | succ f ih =>
    intro seen a w hw h
    rw [Nat.add_right_comm]
    refine ⟨fun e => (h.1 e).elim, fun i hi => ?_⟩
    exact wpOp_of_qOp hw (fun b w' hw' hb => ih _ b w' hw' hb) (h.2 i hi).2

/-- The next operation of the text may come first. -/
theorem headQ_first {n i : Nat} {oi : Oper} {v : Value} {L : Array Bool → Act → Prop} (hi : ops[i]? = some oi) (hsel : ∀ (j : Nat) (o : Oper) cs b, ops[j]? = some o → o.op ≠ .select cs b)
    (hs : Region.sinkB md ops n = true) (hc : Region.chainB md ops n = true) (hn : n < ops.size) (hin : i < n) (hend : ∀ seen a, L seen a → ∀ j, j ∈ Region.ready md ops seen → n ≤ j) (f : Nat) :
    ∀ (seen : Array Bool) (a : Act), HeadInv md ops n seen → (∀ j oj, ops[j]? = some oj → j ≠ i → seen.getD j true = false → (∀ e ∈ oj.after, Region.binds md e = true → e.on ≠ i) → oi.apart ops oj = true) →
      i ∈ Region.ready md ops seen → YieldsIn P ops C oi v a → headQ P md ops C n L f (seen.setIfInBounds i true) (a.put oi.dst v) → headQ P md ops C n L (f + 1) seen a := by
  induction f with
  | zero =>
    intro seen a inv _ hr hy H
    refine ⟨List.ne_nil_of_mem hr, fun j hj => ?_⟩
    have hjn : j < n := Nat.lt_of_not_le fun hle => tail_waits hs hc hn inv _ i rfl hin (mem_ready.1 hr).1 j hle hj
    refine ⟨hjn, ?_⟩
    rcases Decidable.em (j = i) with e | e
    · rw [e]; exact hy.qOp hi H
    · exact absurd (hend _ _ H j (ready_mono hj e)) (Nat.not_le_of_lt hjn)
  | succ f ih =>
    intro seen a inv hfree hr hy H
    have hun := (mem_ready.1 hr).1
    refine ⟨List.ne_nil_of_mem hr, fun j hj => ?_⟩
    have hjn : j < n := Nat.lt_of_not_le fun hle => tail_waits hs hc hn inv _ i rfl hin hun j hle hj
    refine ⟨hjn, ?_⟩
    rcases Decidable.em (j = i) with e | e
    · rw [e]; exact hy.qOp hi H
    obtain ⟨hju, oj, hoj, hall⟩ := mem_ready.1 hj
    have hno : ∀ x ∈ oj.after, Region.binds md x = true → x.on ≠ i := fun x hx hb he => by
      have := hall x hx hb
      rw [he, getD_both hun] at this
      exact Bool.noConfusion this
    have h1 := (H.2 j (ready_mono hj e)).2
    have h2 := qOp_put hoj (hfree j oj hoj e hju hno) (fun cs b => hsel i oi cs b hi) (fun cs b => hsel j oj cs b hoj) hy h1
    refine qOp_mono (fun b hb => ?_) h2
    refine ih _ b (inv.set hj hjn) (fun k ok hk hki hku hkn => ?_) (ready_mono hr (Ne.symm e)) hb.1 ?_
    · refine hfree k ok hk hki ?_ hkn
      rcases Decidable.em (j = k) with ejk | ejk
      · rw [← ejk]; exact hju
      · rwa [getD_set_ne true ejk] at hku
    · rw [Array.setIfInBounds_comm _ _ e]
      exact hb.2

theorem headQ_lex {n g : Nat} {K : Act → Prop} (hsel : Region.noSelect ops = true) (hs : Region.sinkB md ops n = true) (hc : Region.chainB md ops n = true) (hn : n < ops.size) (l : List Oper) :
    ∀ (k : Nat) (seen : Array Bool) (a : Act), (∀ j, j < l.length → l[j]? = ops[k + j]?) → k + l.length = n → HeadInv md ops n seen → Region.lexHead md ops g l.length k seen = true → wpQuiet P ops C K l a →
      headQ P md ops C n (fun s b => Region.seqB md ops g n s = true ∧ K b) l.length seen a := by
  induction l with
  | nil =>
    intro k seen a _ hk _ hB h
    obtain rfl : k = n := hk
    exact ⟨hB, h⟩
  | cons o l ih =>
    intro k seen a hl hk inv hB h
    have h0 : ops[k]? = some o := (hl 0 (Nat.succ_pos _)).symm
    rw [List.length_cons] at hk
    simp only [List.length_cons, Region.lexHead, Bool.and_eq_true, List.contains_iff_mem] at hB
    have hkn : k < n := by omega
    have hq : qOp P ops C k (wpQuiet P ops C K l) a := by unfold qOp; rw [h0]; exact h
    obtain ⟨v, hy, hK⟩ := yieldsIn_of_qOp h0 hq
    refine headQ_first h0 (Region.noSelect_spec hsel) hs hc hn hkn (fun s b hL => seqB_ready hL.1) l.length seen a inv (Region.free_spec h0 hB.1.2) hB.1.1 hy ?_
    refine ih (k + 1) _ _ (fun j hj => ?_) (by omega) (inv.set hB.1.1 hkn) hB.2 hK
    have := hl (j + 1) (by simpa using hj)
    rw [show k + 1 + j = k + (j + 1) by omega, ← this]
    rfl

/-- The region: its first n operations quiet, the others behind them in the order of the text. -/
theorem wp_region_quiet_tail {id : Nat} {Q : Exit → Act → World → Prop} {a : Act} {w : World} {l : List Oper} (n : Nat) (hm : P.follows .mixedOrders = true) (hB : Region.lexTailB .any l.toArray n = true)
    (h : wpQuiet P l.toArray (fun w' => ∃ d, w' = w.drewN d) (fun b => ∀ w', (∃ d, w' = w.drewN d) → wpList P l.toArray Q (l.drop n) b w') (l.take n) a) : (Code.region id l.toArray true).wp P Q a w := by
  simp only [Region.lexTailB, Bool.and_eq_true, decide_eq_true_eq] at hB
  obtain ⟨⟨⟨⟨hsel, hn⟩, hs⟩, hc⟩, hlex⟩ := hB
  have hn' : n < l.length := hn
  have htl : (l.take n).length = n := by rw [List.length_take]; omega
  have hsz : l.toArray.size - n = (l.drop n).length := by rw [List.length_drop]; rfl
  rw [hsz] at hlex
  have inv0 : HeadInv .any l.toArray n (Array.replicate l.toArray.size false) :=
    ⟨Array.size_replicate, fun j _ _ hj => (by rw [getD_replicate_false] at hj; exact Bool.noConfusion hj), fun t _ ht => getD_in (by rw [Array.size_replicate]; exact ht) (getD_replicate_false _ _)⟩
  have H := headQ_lex (md := .any) hsel hs hc hn (l.take n) 0 _ a (fun j hj => by rw [htl] at hj; simp [hj]) (by omega) inv0 (by rw [htl]; exact hlex) h
  have H2 := any_of_headQ (R := Q) (g := (l.drop n).length) (fun s b w' hw' hL => wpAny_of_seq (l.drop n) n s b w' (fun j => by simp [List.getElem?_drop]) hL.1 (hL.2 w' hw')) _ _ _ { w with drawn := w.drawn + 1 } ⟨1, rfl⟩ H
  refine wp_region_any hm ?_
  rw [htl, ← hsz, show n + (l.toArray.size - n) = l.toArray.size by have : l.toArray.size = l.length := rfl; omega] at H2
  exact H2
end
end Go.Proofs.Ytchhbcmkhbfpoaa

/- Package item: two items held against each other by themselves. -/
namespace Go.Proofs.Ytchhbcmkhbfpoaa
open Go.RowKit

/-- A block of an item's four cells. -/
theorem iblk {w : World} {g : Nat} {t : TypeId} {a b c d : Value} (h : Blk w g t #[a, b, c, d]) :
    w.cell? ⟨g, 0, none⟩ = some a ∧ w.cell? ⟨g, 1, none⟩ = some b ∧ w.cell? ⟨g, 2, none⟩ = some c ∧ w.cell? ⟨g, 3, none⟩ = some d ∧ w.frozen? ⟨g, 3, none⟩ = false :=
  ⟨by rw [h.cell]; rfl, by rw [h.cell]; rfl, by rw [h.cell]; rfl, by rw [h.cell]; rfl, h.free 3⟩
/-- Two items boxed, one behind the other. -/
theorem iblk2 (w : World) (t : TypeId) (a b : Array Value) : ∃ w1, (w.alloc (.cells a t)).alloc (.cells b t) = w1 ∧ Blk w1 w.heap.size t a ∧ Blk w1 (w.heap.size + 1) t b ∧ Below w.heap.size w w1 :=
  ⟨_, rfl, (Blk.fresh w t a).alloc _, by have := Blk.fresh (w.alloc (.cells a t)) t b; rwa [World.size_alloc] at this, (below_alloc w _).alloc (by simp) _⟩
theorem iblk2B (w : World) (t : TypeId) (a b : Array Value) : ∃ w1, (w.alloc (.cells a t)).alloc (.cells b t) = w1 ∧ Blk w1 w.heap.size t a ∧ Blk w1 (w.heap.size + 1) t b ∧ Bel w.heap.size w w1 :=
  ⟨_, rfl, (Blk.fresh w t a).alloc _, by have := Blk.fresh (w.alloc (.cells a t)) t b; rwa [World.size_alloc] at this, (bel_alloc w _).alloc (by simp) _⟩
theorem iblk1 (w : World) (t : TypeId) (a : Array Value) : ∃ w1, w.alloc (.cells a t) = w1 ∧ Blk w1 w.heap.size t a ∧ Below w.heap.size w w1 :=
  ⟨_, rfl, Blk.fresh w t a, below_alloc w _⟩

end Go.Proofs.Ytchhbcmkhbfpoaa

/- Package limit: are limits right; the document's answer. -/
namespace Go.Proofs.Ytchhbcmkhbfpoaa
open Go.RowKit

/-- Are limits right? -/
def rightL (d k s : Int) : Bool := decide (1 ≤ d) && decide (d ≤ 64) && (decide (1 ≤ k) && decide (k ≤ 1024)) && (decide (1 ≤ s) && decide (s ≤ 2305843009213693951))
theorem rightL_true {d k s : Int} : rightL d k s = true ↔ 1 ≤ d ∧ d ≤ 64 ∧ 1 ≤ k ∧ k ≤ 1024 ∧ 1 ≤ s ∧ s ≤ 2305843009213693951 := by
  simp only [rightL, Bool.and_eq_true, decide_eq_true_eq, and_assoc]
/-- What Check tells of limits. -/
def rightR (d k s : Int) : Int := if rightL d k s = true then 0 else 15
/-- Limits boxed. -/
theorem lblk {w : World} {g : Nat} {t : TypeId} {a b c : Value} (h : Blk w g t #[a, b, c]) :
    w.cell? ⟨g, 0, none⟩ = some a ∧ w.cell? ⟨g, 1, none⟩ = some b ∧ w.cell? ⟨g, 2, none⟩ = some c :=
  ⟨by rw [h.cell]; rfl, by rw [h.cell]; rfl, by rw [h.cell]; rfl⟩
/-- Limits as a value. -/
def vL (d k s : Int) : Value := .agg #[.int .i64 d, .int .i64 k, .int .i64 s]

theorem limit_within (n m : Int) (w : World) : Calls Try.prog 33 #[.int .i64 n, .int .i64 m] w fun e w' => e = .returned (.bool (decide (1 ≤ n) && decide (n ≤ m))) ∧ w' = w := by
  by_cases h : 1 ≤ n
  · go_enter Try.func33, Try.ntmps33
    go_wp2
    go_ret
    exact ⟨by rw [decide_eq_true h, Bool.true_and]; rfl, rfl⟩
  · go_enter Try.func33, Try.ntmps33
    go_wp2
    go_ret
    exact ⟨by rw [decide_eq_false (by omega : ¬ 1 ≤ n), Bool.false_and]; rfl, rfl⟩

set_option maxRecDepth 100000 in
set_option maxHeartbeats 4000000 in
theorem limit_Check (d k s : Int) (w : World) : Calls Try.prog 22 #[vL d k s] w fun e w' => e = .returned (.int .i64 (rightR d k s)) ∧ Below w.heap.size w w' := by
  obtain ⟨w1, hw1, b1, S⟩ := iblk1 w 24 #[.int .i64 d, .int .i64 k, .int .i64 s]
  obtain ⟨p0, p1, p2⟩ := lblk b1
  have HW := fun (n m : Int) => limit_within n m w1
  unfold rightR rightL vL
  obtain ⟨x1, e1⟩ : ∃ x, (decide (1 ≤ d) && decide (d ≤ 64)) = x := ⟨_, rfl⟩
  obtain ⟨x2, e2⟩ : ∃ x, (decide (1 ≤ k) && decide (k ≤ 1024)) = x := ⟨_, rfl⟩
  obtain ⟨x3, e3⟩ : ∃ x, (decide (1 ≤ s) && decide (s ≤ 2305843009213693951)) = x := ⟨_, rfl⟩
  rw [e1, e2, e3]
  have HS := Lib.hid S
  have HW := Lib.hid HW
  have E1 := Lib.hid e1
  have E2 := Lib.hid e2
  have E3 := Lib.hid e3
  clear S b1 e1 e2 e3
  cases x1 <;> cases x2 <;> cases x3 <;>
  · go_enter Try.func22, Try.ntmps22
    go_wp2_with (go_at_call 33; refine (HW.out _ _).mono ?_; rintro e w' ⟨rfl, rfl⟩; (first | rw [E1.out] | rw [E2.out] | rw [E3.out]))
    go_ret
    exact ⟨rfl, HS.out⟩

set_option maxRecDepth 100000 in
set_option maxHeartbeats 4000000 in
theorem ref_Right (d k s : Int) (w : World) : Calls Try.prog 7 #[vL d k s] w fun e w' => e = .returned (.bool (rightL d k s)) ∧ Below w.heap.size w w' := by
  obtain ⟨w1, hw1, b1, S⟩ := iblk1 w 24 #[.int .i64 d, .int .i64 k, .int .i64 s]
  obtain ⟨p0, p1, p2⟩ := lblk b1
  have HS := Lib.hid S
  have HR : RowKit.Hid (rightL d k s = (decide (1 ≤ d) && decide (d ≤ 64) && (decide (1 ≤ k) && decide (k ≤ 1024)) && (decide (1 ≤ s) && decide (s ≤ 2305843009213693951)))) := Lib.hid rfl
  unfold vL
  generalize rightL d k s = R at *
  clear S b1
  by_cases h1 : 1 ≤ d
  · by_cases h2 : d ≤ 64
    · by_cases h3 : 1 ≤ k
      · by_cases h4 : k ≤ 1024
        · by_cases h5 : 1 ≤ s
          · by_cases h6 : s ≤ 2305843009213693951
            · have HR' : R = true := by rw [HR.out, decide_eq_true h1, decide_eq_true h2, decide_eq_true h3, decide_eq_true h4, decide_eq_true h5, decide_eq_true h6]; rfl
              subst HR'
              clear HR
              go_enter Try.func7, Try.ntmps7
              go_wp2_with fail
              go_ret
              exact ⟨rfl, HS.out⟩
            · have HR' : R = false := by rw [HR.out, decide_eq_true h1, decide_eq_true h2, decide_eq_true h3, decide_eq_true h4, decide_eq_true h5, decide_eq_false h6]; rfl
              subst HR'
              clear HR
              go_enter Try.func7, Try.ntmps7
              go_wp2_with fail
              go_ret
              exact ⟨rfl, HS.out⟩
          · have HR' : R = false := by rw [HR.out, decide_eq_true h1, decide_eq_true h2, decide_eq_true h3, decide_eq_true h4, decide_eq_false h5]; rfl
            subst HR'
            clear HR
            go_enter Try.func7, Try.ntmps7
            go_wp2_with fail
            go_ret
            exact ⟨rfl, HS.out⟩
        · have HR' : R = false := by rw [HR.out, decide_eq_true h1, decide_eq_true h2, decide_eq_true h3, decide_eq_false h4]; rfl
          subst HR'
          clear HR
          go_enter Try.func7, Try.ntmps7
          go_wp2_with fail
          go_ret
          exact ⟨rfl, HS.out⟩
      · have HR' : R = false := by rw [HR.out, decide_eq_true h1, decide_eq_true h2, decide_eq_false h3]; rfl
        subst HR'
        clear HR
        go_enter Try.func7, Try.ntmps7
        go_wp2_with fail
        go_ret
        exact ⟨rfl, HS.out⟩
    · have HR' : R = false := by rw [HR.out, decide_eq_true h1, decide_eq_false h2]; rfl
      subst HR'
      clear HR
      go_enter Try.func7, Try.ntmps7
      go_wp2_with fail
      go_ret
      exact ⟨rfl, HS.out⟩
  · have HR' : R = false := by rw [HR.out, decide_eq_false h1]; rfl
    subst HR'
    clear HR
    go_enter Try.func7, Try.ntmps7
    go_wp2_with fail
    go_ret
    exact ⟨rfl, HS.out⟩
end Go.Proofs.Ytchhbcmkhbfpoaa

/- The document's scan (layer 14) in memory: note. -/
namespace Go.Proofs.Ytchhbcmkhbfpoaa
open Go.RowKit

/-- An event's cells. -/
def AEv.cells (e : AEv) : List Value := [.int .i64 e.kind, .int .i64 e.major, .int .i64 e.width, .int .i64 e.deep, .int .i64 e.pl, .int .u64 e.arg, .int .u8 e.byte]
def evCells : List AEv → List Value
  | [] => []
  | e :: r => e.cells ++ evCells r
theorem length_evCells (l : List AEv) : (evCells l).length = l.length * 7 := by
  induction l with
  | nil => rfl
  | cons e r ih => unfold evCells; rw [List.length_append, ih]; simp [AEv.cells]; omega
theorem evCells_append (a b : List AEv) : evCells (a ++ b) = evCells a ++ evCells b := by
  induction a with
  | nil => rfl
  | cons e r ih => simp [evCells, ih]
theorem evCells_get {l : List AEv} {i j : Nat} {e : AEv} (h : l[i]? = some e) (hj : j < 7) : (evCells l)[i * 7 + j]? = e.cells[j]? := by
  induction l generalizing i with
  | nil => cases h
  | cons y r ih =>
    unfold evCells
    cases i with
    | zero =>
      simp only [List.getElem?_cons_zero, Option.some.injEq] at h
      subst h
      rw [Nat.zero_mul, Nat.zero_add, List.getElem?_append_left (by simpa [AEv.cells] using hj)]
    | succ i =>
      rw [List.getElem?_append_right (by simp [AEv.cells]; omega), show (i + 1) * 7 + j - y.cells.length = i * 7 + j by simp [AEv.cells]; omega]
      exact ih (by simpa using h)
def scells (A : Option Addr) (n cap : Nat) (d k s : Int) (vA vE vV : Value) : Array Value := #[.slice A n cap, .int .i64 d, .int .i64 k, .int .i64 s, vA, vE, vV]
/-- A scan in block g: its bytes, limits, what it noted, the events; its lists lie behind block B. -/
structure SnV (w : World) (B g : Nat) (A : Option Addr) (cap : Nat) (L : List Int) (d k s : Int) (N : List Note) (E : List AEv) (vA vE vV : Value) : Prop where
  blk : Blk w g 46 (scells A L.length cap d k s vA vE vV)
  at_ : w.ownsRow B 3 1 vA N.length (N.map fun n => .int .i64 (n.1 : Int))
  er : w.ownsRow B 3 1 vE N.length (N.map fun n => .int .i64 n.2)
  ev : w.ownsRow B 48 7 vV E.length (evCells E)
  ne : vA.ownBlock = none ∨ vA.ownBlock ≠ vE.ownBlock
  rd : Rd w B .u8 A L
  ge : B ≤ g
def Sn (w : World) (B g : Nat) (A : Option Addr) (cap : Nat) (L : List Int) (d k s : Int) (N : List Note) (E : List AEv) : Prop := ∃ vA vE vV, SnV w B g A cap L d k s N E vA vE vV
theorem own_diff {w : World} {B B' s1 s2 n1 n2 : Nat} {e1 e2 : TypeId} {v1 v2 : Value} {c1 c2 : List Value} (h1 : w.ownsRow B e1 s1 v1 n1 c1) (h2 : w.ownsRow B' e2 s2 v2 n2 c2) (he : e1 ≠ e2) : v1.ownBlock = none ∨ v1.ownBlock ≠ v2.ownBlock := by
  rcases h1.2 with ⟨rfl, _⟩ | ⟨g, cap, cur, rfl, _, hh, _⟩
  · left; rfl
  · right
    rcases h2.2 with ⟨rfl, _⟩ | ⟨g', cap', cur', rfl, _, hh', _⟩
    · simp [Value.ownBlock]
    · intro e
      have e' : g = g' := by simpa [Value.ownBlock] using e
      subst e'
      rw [hh] at hh'
      injection hh' with hh'
      injection hh' with _ hh' _
      exact he hh'
theorem own_ltb {w : World} {B s n : Nat} {e : TypeId} {v : Value} {c : List Value} (h : w.ownsRow B e s v n c) : v.ownBlock = none ∨ ∃ g, v.ownBlock = some g ∧ B ≤ g ∧ g < w.heap.size := by
  rcases h.2 with ⟨rfl, _⟩ | ⟨g, cap, cur, rfl, hb, hh, _⟩
  · left; rfl
  · right; exact ⟨g, rfl, hb, (Array.getElem?_eq_some_iff.1 hh).1⟩
section
variable {w w' : World} {B g : Nat} {A : Option Addr} {cap : Nat} {L : List Int} {d k s : Int} {N : List Note} {E : List AEv} {vA vE vV : Value}
theorem SnV.on (h : SnV w B g A cap L d k s N E vA vE vV) (hb : Below w.heap.size w w') (hB : B ≤ w.heap.size) : SnV w' B g A cap L d k s N E vA vE vV :=
  ⟨h.blk.on hb, oc_on h.at_ hb, oc_on h.er hb, oc_on h.ev hb, h.ne, h.rd.below (hb.mono hB), h.ge⟩
theorem Sn.on (h : Sn w B g A cap L d k s N E) (hb : Below w.heap.size w w') (hB : B ≤ w.heap.size) : Sn w' B g A cap L d k s N E := let ⟨a, b, c, h⟩ := h; ⟨a, b, c, h.on hb hB⟩
theorem SnV.lt (h : SnV w B g A cap L d k s N E vA vE vV) : g < w.heap.size := h.blk.lt
theorem SnV.cells (h : SnV w B g A cap L d k s N E vA vE vV) : w.cell? ⟨g, 0, none⟩ = some (.slice A L.length cap) ∧ w.cell? ⟨g, 1, none⟩ = some (.int .i64 d) ∧ w.cell? ⟨g, 2, none⟩ = some (.int .i64 k) ∧ w.cell? ⟨g, 3, none⟩ = some (.int .i64 s) ∧ w.cell? ⟨g, 4, none⟩ = some vA ∧ w.cell? ⟨g, 5, none⟩ = some vE ∧ w.cell? ⟨g, 6, none⟩ = some vV ∧ ∀ i, w.frozen? ⟨g, i, none⟩ = false :=
  ⟨h.blk.cell 0, h.blk.cell 1, h.blk.cell 2, h.blk.cell 3, h.blk.cell 4, h.blk.cell 5, h.blk.cell 6, h.blk.free⟩
end
section
variable {P : Program}
/-- For an arm of a region that draws: append of a slice whose cells are known to one of the call's own. -/
theorem step_append_at {ops : Array Oper} {o : Oper} {a : Act} {w : World} {K : Act → World → Prop} {Q : Exit → Act → World → Prop} {F : Prop} (hgd : o.guard = none) {s x : Operand} {t e : TypeId}
    (ho : o.op = .call { callee := .builtin .append, args := #[s, x], argTypes := #[t, t] }) {B bytes sz : Nat} {v z : Value} {n m c : Nat} {cs news : List Value} {ad : Addr} (hs : a.eval s = v) (hx : a.eval x = .slice (some ad) m c)
    (ht : P.underlying t = some (.slice e)) (hi : (P.info? e).map (fun i => (i.zero, i.size, i.bytes)) = some (some z, sz, bytes)) (hz : z.cells.size = sz) (h0 : 0 < sz) (hby : bytes ≤ 64)
    (hown : w.ownsRow B e sz v n cs) (hl : news.length = m * sz) (hc : ∀ j u, news[j]? = some u → w.cell? (ad.add j) = some u) (h1 : ∀ u ∈ news, u.oneCell' = true) (hb : n + m ≤ 1099511627776) (hB : B ≤ w.heap.size)
    (h : ∀ v' w', w'.ownsRow B e sz v' (n + m) (cs ++ news) → Below B w w' → w.grownBy w' v.ownBlock → (v'.ownBlock = v.ownBlock ∨ v'.ownBlock = some w.heap.size) → K (a.put o.dst v') w') : if Region.wanted o (yielded ops a.tmps) = true then Oper.wp P o a w K Q else F := by
  obtain ⟨v', w', r1, r2, r3, r4, r5⟩ := oc_append (P := P) (ty := o.type) ht hi hz h0 hby hown hl hc h1 hb hB
  exact step_append_run hgd ho r1 hs hx (h v' w' r2 r3 r4 r5)
end
end Go.Proofs.Ytchhbcmkhbfpoaa
