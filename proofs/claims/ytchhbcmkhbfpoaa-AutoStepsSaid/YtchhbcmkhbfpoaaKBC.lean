/- Package utf: whole texts. -/
import Derived.Test.YtchhbcmkhbfpoaaKAS
import Derived.Deep.WholeRow
import Derived.Test.YtchhbcmkhbfpoaaKAB
import Derived.Outline
import Derived.Test.YtchhbcmkhbfpoaaKBB
namespace Go.Proofs.Ytchhbcmkhbfpoaa
open Go.RowKit

/-- The state after the first k bytes. -/
def ust (q : UQ) (l : List Int) (k : Nat) : UQ := urun q (l.take k)
theorem urun_append (q : UQ) (a b : List Int) : urun q (a ++ b) = urun (urun q a) b := by
  induction a generalizing q with
  | nil => rfl
  | cons c r ih => exact ih _
theorem ust_zero (q : UQ) (l : List Int) : ust q l 0 = q := rfl
theorem ust_succ (q : UQ) (l : List Int) (k : Nat) (h : k < l.length) : ust q l (k + 1) = ustep (ust q l k) (l.getD k 0) := by
  unfold ust
  rw [List.take_add_one, urun_append]
  simp [h, urun, List.getD_eq_getElem?_getD]
theorem ust_all (q : UQ) (l : List Int) : ust q l l.length = urun q l := by unfold ust; rw [List.take_length]
theorem ustep_left (q : UQ) (c : Int) (h : q.left ≤ 3) : (ustep q c).left ≤ 3 := by
  unfold ustep
  split
  · exact h
  split
  · split
    · rename_i n hn
      have := umore_some hn
      show n ≤ 3
      omega
    · exact h
  split
  · exact h
  · show q.left - 1 ≤ 3
    omega
theorem urun_left (l : List Int) : ∀ q : UQ, q.left ≤ 3 → (urun q l).left ≤ 3 := by
  induction l with
  | nil => exact fun q h => h
  | cons c r ih => exact fun q h => ih _ (ustep_left q c h)
theorem ust_left (l : List Int) (k : Nat) : (ust uq0 l k).left ≤ 3 := urun_left _ _ (Nat.zero_le _)
theorem ustep_wr (q : UQ) (c : Int) (h : q.wr = true) : ustep q c = q := by unfold ustep; rw [if_pos h]
theorem urun_wr (q : UQ) (l : List Int) (h : q.wr = true) : urun q l = q := by
  induction l with
  | nil => rfl
  | cons c r ih => show urun (ustep q c) r = q; rw [ustep_wr q c h, ih]
/-- The first wrong byte's place. -/
theorem uat_shift (l : List Int) : ∀ (q : UQ) (i : Nat), uat q l i = if uat q l 0 < 0 then -1 else uat q l 0 + i := by
  induction l with
  | nil => intro q i; rfl
  | cons c r ih =>
    intro q i
    unfold uat
    split
    · simp
    · rw [ih _ (i + 1), ih _ (0 + 1)]
      split
      · simp
      · split <;> omega
theorem uat_none {q : UQ} {l : List Int} (h : ∀ k, k ≤ l.length → (ust q l k).wr = false) : uat q l 0 = -1 := by
  induction l generalizing q with
  | nil => rfl
  | cons c r ih =>
    have h1 : (ustep q c).wr = false := by simpa [ust, urun] using h 1 (by simp)
    have := ih (q := ustep q c) (fun k hk => by simpa [ust, urun] using h (k + 1) (by simp; omega))
    unfold uat
    rw [if_neg (by simp [h1]), uat_shift, this]
    rfl
theorem uat_some {q : UQ} {l : List Int} (k : Nat) (hk : k < l.length) (h : (ust q l k).wr = false) (h' : (ust q l (k + 1)).wr = true) : uat q l 0 = k := by
  induction l generalizing q k with
  | nil => simp at hk
  | cons c r ih =>
    cases k with
    | zero =>
      have h1 : (ustep q c).wr = true := by simpa [ust, urun] using h'
      unfold uat
      rw [if_pos h1]
    | succ k =>
      have h1 : (ust (ustep q c) r k).wr = false := by simpa [ust, urun] using h
      have h0 : (ustep q c).wr = false := by
        cases hw : (ustep q c).wr with
        | false => rfl
        | true =>
          have := urun_wr (ustep q c) (r.take k) hw
          unfold ust at h1
          rw [this, hw] at h1
          cases h1
      have := ih (q := ustep q c) k (by simpa using hk) h1 (by simpa [ust, urun] using h')
      unfold uat
      rw [if_neg (by simp [h0]), uat_shift, this, if_neg (by omega)]
      simp
/-- Once wrong, wrong. -/
theorem ust_wr_mono {q : UQ} {l : List Int} {j k : Nat} (hjk : j ≤ k) (h : (ust q l j).wr = true) : (ust q l k).wr = true := by
  have e : l.take k = l.take j ++ (l.take k).drop j := by
    have := (List.take_append_drop j (l.take k)).symm
    rwa [List.take_take, Nat.min_eq_left hjk] at this
  unfold ust at h ⊢
  rw [e, urun_append, urun_wr _ _ h, h]
theorem uok_wr {q : UQ} {l : List Int} {k : Nat} (hk : k ≤ l.length) (h : (ust q l k).wr = true) : uok q l = false := by
  have := ust_wr_mono hk h
  rw [ust_all] at this
  unfold uok udone
  rw [this]
  rfl
theorem udone_wr {q : UQ} (h : q.wr = true) : udone q = false := by
  unfold udone
  rw [h]
  rfl
/-- What is stored, field by field. -/
theorem ublk_put {w : World} {g : Nat} {t : TypeId} {q : UQ} (h : Blk w g t (ucells q)) (n : Nat) (l u : Int) (b : Bool) :
    Blk ((((w.setCell ⟨g, 0, none⟩ (.int .i64 n)).setCell ⟨g, 1, none⟩ (.int .u8 l)).setCell ⟨g, 2, none⟩ (.int .u8 u)).setCell ⟨g, 3, none⟩ (.bool b)) g t (ucells ⟨n, l, u, b⟩) :=
  (((h.put 0 (.int .i64 n)).put 1 (.int .u8 l)).put 2 (.int .u8 u)).put 3 (.bool b)
theorem below_put4 {w0 w : World} {B g : Nat} (h : Below B w0 w) (hg : B ≤ g) (x0 x1 x2 x3 : Value) :
    Below B w0 ((((w.setCell ⟨g, 0, none⟩ x0).setCell ⟨g, 1, none⟩ x1).setCell ⟨g, 2, none⟩ x2).setCell ⟨g, 3, none⟩ x3) :=
  (((h.setCell hg x0).setCell hg x1).setCell hg x2).setCell hg x3
theorem uq_zero : ∀ w, (zeroValue 71).run Try.prog w = .ok (.agg (ucells uq0)) w := (zero_of_info (n := 4) (by kernel_rfl)).1

end Go.Proofs.Ytchhbcmkhbfpoaa

/- Package auto: what take answers is what the plain machine does. -/
namespace Go.Proofs.Ytchhbcmkhbfpoaa
open Go.RowKit

theorem hok_step {q : HQ} (hok : HOk q) (hq : HInv q) (c : Int) : HOk (hstep q c) := by
  have h := hok_mid q c hok (fun _ ho => by have := hq.left ho; omega)
  unfold hstep
  split
  · exact h
  · exact h
theorem evs_own {n : NW} {i : Nat} (h : n.kind ≠ 0) (h0 : n.ended = 0) : n.evs i = [⟨n.kind, n.major, n.width, n.arg, n.byte, n.deep.toNat, i⟩] := by
  unfold NW.evs
  rw [if_neg h, if_pos h0]
theorem evs_over {n : NW} {i : Nat} {st : List Fr} (h : n.kind ≠ 0) (hd : n.deep = (st.length : Int) + 1) : (n.over st).evs i = ⟨n.kind, n.major, n.width, n.arg, n.byte, n.deep.toNat, i⟩ :: (settle (i + 1) st).2.2 := by
  have hl := endS_len st
  unfold NW.evs NW.over
  dsimp only
  rw [if_neg h, if_neg (by omega), settle_evs]
  congr 3
  · congr 1 <;> omega
/-- Nothing is wrong: the machine goes on. -/
structure Goes1 (own : Nat → Nat) (a f D K i : Nat) (s : AQ) (x : AC) (c : Int) (s' : AQ) (n : NW) (x' : AC) (e : Ending) (w' : World) : Prop where
  next : (fstep D K i s c).next = some s'
  evs : n.evs i = (fstep D K i s c).evs
  ok : OkP own a f D K n s'.st x' e w'
  am : AM s' x'
  handed : x'.handed = x.handed
  S : x'.S = x.S
theorem fstep_open {D K i : Nat} {s s' : AQ} {c : Int} (h : (bstep D K i s c).next = some s') (he : s'.isEnded = false) : fstep D K i s c = bstep D K i s c := by
  unfold fstep
  rw [h]
  dsimp only
  rw [he, if_neg (by decide)]
theorem fstep_end {D K i : Nat} {s s' : AQ} {c : Int} (h : (bstep D K i s c).next = some s') (he : s'.isEnded = true) : fstep D K i s c = ⟨some (settle (i + 1) s'.st).1, (bstep D K i s c).notes ++ (settle (i + 1) s'.st).2.1, (bstep D K i s c).evs ++ (settle (i + 1) s'.st).2.2⟩ := by
  unfold fstep
  rw [h]
  dsimp only
  rw [he, if_pos rfl]
theorem fstep_pre {D K i : Nat} {s : AQ} {c : Int} : ∃ t, (fstep D K i s c).notes = (bstep D K i s c).notes ++ t := by
  unfold fstep
  split
  · exact ⟨[], by simp⟩
  · split
    · exact ⟨_, rfl⟩
    · exact ⟨[], by simp⟩
/-- Of what is noted the first. -/
def Fst (o : Out) (k : Int) : Prop := ∃ m r, o.notes = m :: r ∧ m.2 = k
theorem hnotes2 {D K i : Nat} {st : List Fr} {q : HQ} {c : Int} (h : herr q c = 2) : ∃ r, hnotes D K i st q c = (i, 2) :: r := by unfold hnotes; rw [if_pos h]; exact ⟨_, rfl⟩
theorem hnotes3 {D K i : Nat} {st : List Fr} {q : HQ} {c : Int} (h : ¬ herr q c = 2) (h' : q.opn = false ∧ D < st.length + 1) : ∃ r, hnotes D K i st q c = (i, 3) :: r := by unfold hnotes; rw [if_neg h, if_pos h']; exact ⟨_, rfl⟩
theorem hnotes4 {D K i : Nat} {st : List Fr} {q : HQ} {c : Int} (h : ¬ herr q c = 2) (h' : ¬ D < st.length + 1) (h4 : st.any (Fr.full K) = true) : ∃ r, hnotes D K i st q c = (i, 4) :: r := by unfold hnotes; rw [if_neg h, if_neg (fun x => h' x.2), if_pos h4]; exact ⟨_, rfl⟩
theorem hnotes5 {D K i : Nat} {st : List Fr} {q : HQ} {c : Int} (h : ¬ herr q c = 2) (h' : ¬ D < st.length + 1) (h4 : st.any (Fr.full K) = false) (h5 : herr q c = 5) : ∃ r, hnotes D K i st q c = (i, 5) :: r := by unfold hnotes; rw [if_neg h, if_neg (fun x => h' x.2), if_neg (by simp [h4]), if_pos h5]; exact ⟨_, rfl⟩
theorem tnotes4 {K i : Nat} {st : List Fr} {n : Int} {t : Bool} {u : UQ} {c : Int} (h4 : st.any (Fr.full K) = true) : ∃ r, tnotes K i st n t u c = (i, 4) :: r := by unfold tnotes; rw [if_pos h4]; exact ⟨_, rfl⟩
theorem Fst.of {D K i : Nat} {s : AQ} {c k : Int} (h : Fst (bstep D K i s c) k) : Fst (fstep D K i s c) k := by
  obtain ⟨m, r, h1, h2⟩ := h
  obtain ⟨t, ht⟩ := fstep_pre (D := D) (K := K) (i := i) (s := s) (c := c)
  exact ⟨m, r ++ t, by rw [ht, h1]; rfl, h2⟩
section
variable {own : Nat → Nat} {a f D K i : Nat} {x x2 : AC} {s s2 : AQ} {c : Int} {e : Ending} {w' : World} {n : NW}
/-- An item ends. -/
theorem ends_plain {st : List Fr} (hb : (bstep D K i s c).next = some ⟨st, .ended⟩) (hn : (bstep D K i s c).notes = []) (hev : (bstep D K i s c).evs = [⟨n.kind, n.major, n.width, n.arg, n.byte, n.deep.toNat, i⟩]) (hk : n.kind ≠ 0) (hd : n.deep = (st.length : Int) + 1)
    (hp : EndP own a f D K n st x2 e w') (hq : HInv x2.q) (hok : HOk x2.q) (hu : x2.u.left ≤ 3) (hw : x2.wrong = 0) (hopn : x2.q.opn = false) (ht : x2.text = 0) (hh : x2.handed = x.handed) (hS : x2.S = x.S) :
    (∃ k, Fst (fstep D K i s c) k ∧ ErrP own a f D K x k e w') ∨ ((fstep D K i s c).notes = [] ∧ ∃ s' n' x', Goes1 own a f D K i s x c s' n' x' e w') := by
  have hf := fstep_end hb rfl
  dsimp only at hf
  cases hr : (endS st).1 with
  | false =>
    left
    refine ⟨7, ⟨(i, 7), [], ?_, rfl⟩, ?_⟩
    · rw [hf, hn, settle_notes, hr]; rfl
    · obtain ⟨h1, x', h2, h3⟩ := hp.1 hr
      exact ⟨h1, x', h2, h3.trans hh⟩
  | true =>
    right
    obtain ⟨h1, h2⟩ := hp.2 hr
    obtain ⟨e1, e2⟩ := settle_st (i + 1) st
    refine ⟨by rw [hf, hn, settle_notes, hr]; rfl, _, n.over st, { x2 with done := (endS st).2.1 }, ⟨by rw [hf], ?_, ⟨h1, by rw [e1]; exact h2⟩, ⟨?_, hq, hok, hu, hw⟩, hh, hS⟩⟩
    · rw [hf, hev, evs_over hk hd]; rfl
    · rcases e2 with ⟨q1, q2⟩ | ⟨q1, q2⟩
      · rw [q2]; exact ⟨q1, ht⟩
      · rw [q2]
        exact ⟨ht, q1, .inr ⟨hopn, rfl, hq.wrong, rfl⟩⟩
end
theorem take_plain {own : Nat → Nat} {a f D K i : Nat} {x : AC} {s : AQ} {c : Int} {e : Ending} {w' : World} (hO : AOk D K s) (hM : AM s x) (h0 : 0 ≤ c) (h1 : c < 256) (hp : TakeW own a f D K s.st x c e w') (hS : ¬ x.S ≤ x.handed) :
    (∃ k, Fst (fstep D K i s c) k ∧ ErrP own a f D K x k e w') ∨ ((fstep D K i s c).notes = [] ∧ ∃ s' n' x', Goes1 own a f D K i s x c s' n' x' e w') := by
  obtain ⟨st, k⟩ := s
  obtain ⟨hlen, hfr, hct⟩ := hO
  obtain ⟨hc, hq, hok, hu, hwr⟩ := hM
  dsimp only at hlen hfr hct hp hc
  rcases hct with ⟨q, rfl, hqi, hlt⟩ | ⟨n, t, u, rfl, hn1, hn2, huw, hlt⟩ | ⟨rfl, rfl⟩
  · obtain ⟨ct, cd, cs⟩ := hc
    have hH := hp.head hS cd ct
    have hB : bstep D K i ⟨st, .head q⟩ c = ⟨if hdone q c then some (enter (st.map (Fr.feeds [c])) (hstep q c).major (hstep q c).arg) else if herr q c = 0 then some ⟨st.map (Fr.feeds [c]), .head (hstep q c)⟩ else none,
      hnotes D K i st q c, if hdone q c then [⟨1, (hstep q c).major, (hstep q c).width, (hstep q c).arg, 0, st.length + 1, i⟩] else []⟩ := rfl
    by_cases e2 : herr x.q c = 2
    · left
      obtain ⟨r, hr⟩ := hnotes2 (D := D) (K := K) (i := i) (st := st) (q := q) (c := c) (cs.err c ▸ e2)
      exact ⟨2, .of ⟨(i, 2), r, hr, rfl⟩, hH.e2 e2⟩
    have e2' : ¬ herr q c = 2 := cs.err c ▸ e2
    by_cases e3 : D < st.length + 1
    · left
      have ho : q.opn = false := by
        cases ho : q.opn with
        | false => rfl
        | true => have := hlt ho; omega
      obtain ⟨r, hr⟩ := hnotes3 (D := D) (K := K) (i := i) (st := st) e2' ⟨ho, e3⟩
      exact ⟨3, .of ⟨(i, 3), r, hr, rfl⟩, hH.e3 e2 e3⟩
    cases hf : st.any (Fr.full K) with
    | true =>
      left
      obtain ⟨r, hr⟩ := hnotes4 (D := D) (K := K) (i := i) e2' e3 hf
      exact ⟨4, .of ⟨(i, 4), r, hr, rfl⟩, hH.e4 e2 e3 hf⟩
    | false =>
      by_cases e0 : herr x.q c = 0
      · have e0' : herr q c = 0 := cs.err c ▸ e0
        have hnn : hnotes D K i st q c = [] := by
          unfold hnotes
          rw [if_neg e2', if_neg (fun h => e3 h.2), if_neg (by simp [hf]), if_neg (by omega)]
          rfl
        cases hd : hdone x.q c with
        | false =>
          right
          have hd' : hdone q c = false := cs.done c ▸ hd
          have hnx : (bstep D K i ⟨st, .head q⟩ c).next = some ⟨st.map (Fr.feeds [c]), .head (hstep q c)⟩ := by rw [hB]; dsimp only; rw [hd', if_neg (by decide), if_pos e0']
          have hfs := fstep_open hnx rfl
          obtain ⟨i1, i2⟩ := hq.next h0 h1 hd e0
          refine ⟨by rw [hfs, hB]; exact hnn, ⟨st.map (Fr.feeds [c]), .head (hstep q c)⟩, nw0, { x with q := hstep x.q c }, ⟨by rw [hfs]; exact hnx, ?_, hH.mid e3 hf e0 hd, ⟨⟨ct, cd, .inl (cs.step c)⟩, i1, hok_step hok hq c, hu, hwr⟩, rfl, rfl⟩⟩
          rw [hfs, hB]
          dsimp only
          rw [hd', if_neg (by decide)]
          rfl
        | true =>
          have hd' : hdone q c = true := cs.done c ▸ hd
          have hst : hstep x.q c = hstep q c := cs.step c
          obtain ⟨i1, i2⟩ := hq.done h0 h1 hd
          have hnx : (bstep D K i ⟨st, .head q⟩ c).next = some (enter (st.map (Fr.feeds [c])) (hstep x.q c).major (hstep x.q c).arg) := by rw [hB]; dsimp only; rw [hd', if_pos rfl, hst]
          have hev : (bstep D K i ⟨st, .head q⟩ c).evs = [⟨1, (hstep x.q c).major, (hstep x.q c).width, (hstep x.q c).arg, 0, st.length + 1, i⟩] := by rw [hB]; dsimp only; rw [hd', if_pos rfl, hst]
          have hno : (bstep D K i ⟨st, .head q⟩ c).notes = [] := by rw [hB]; exact hnn
          cases hen : (enter (st.map (Fr.feeds [c])) (hstep x.q c).major (hstep x.q c).arg).isEnded with
          | false =>
            right
            have hfs := fstep_open hnx hen
            have hok2 := hH.beg e3 hf e0 hd hen
            refine ⟨by rw [hfs]; exact hno, _, _, _, ⟨by rw [hfs]; exact hnx, ?_, hok2, ?_, begX_handed _ _ _, ?_⟩⟩
            · rw [hfs, hev, evs_own (n := hdN st (hstep x.q c)) (show (1 : Int) ≠ 0 by decide) rfl]
              unfold hdN
              congr 2
            · have hb2 : ∀ m g, (begX { x with q := hstep x.q c } m g).q = hstep x.q c := fun m g => by unfold begX; split <;> rfl
              have hbd : ∀ m g, (begX { x with q := hstep x.q c } m g).done = x.done := fun m g => by unfold begX; split <;> rfl
              have hbw : ∀ m g, (begX { x with q := hstep x.q c } m g).wrong = x.wrong := fun m g => by unfold begX; split <;> rfl
              have hbu : ∀ m g, (begX { x with q := hstep x.q c } m g).u.left ≤ 3 := fun m g => by
                unfold begX; split
                · exact Nat.zero_le _
                · exact hu
              refine ⟨?_, by rw [hb2]; exact i1, by rw [hb2]; exact hok_step hok hq c, hbu _ _, by rw [hbw]; exact hwr⟩
              revert hen
              unfold enter
              by_cases m2 : (hstep x.q c).major = 2 ∨ (hstep x.q c).major = 3
              · rw [if_pos m2]
                split
                · intro h; cases h
                · intro _
                  refine ⟨?_, by rw [hbd]; exact cd, ?_, ?_, by rw [hb2]; exact i2⟩
                  · unfold begX; rw [if_pos m2]
                  · rw [hb2]
                  · intro _; unfold begX; rw [if_pos m2]
              · have hbt : (begX { x with q := hstep x.q c } (hstep x.q c).major (hstep x.q c).arg).text = 0 := by unfold begX; rw [if_neg m2]; exact ct
                rw [if_neg m2]
                have hhd : CtlM (Ctl.head hq0) (begX { x with q := hstep x.q c } (hstep x.q c).major (hstep x.q c).arg) := ⟨hbt, by rw [hbd]; exact cd, by rw [hb2]; exact .inr ⟨i2, rfl, i1.wrong, rfl⟩⟩
                split
                · split
                  · intro h; cases h
                  · intro _; exact hhd
                · split
                  · intro _; exact hhd
                  · intro h; cases h
            · unfold begX; split <;> rfl
          | true =>
            have hE := hH.fin e3 hf e0 hd hen
            have hen2 : enter (st.map (Fr.feeds [c])) (hstep x.q c).major (hstep x.q c).arg = ⟨st.map (Fr.feeds [c]), .ended⟩ := by
              have e1 := enter_ended hen
              cases hh : enter (st.map (Fr.feeds [c])) (hstep x.q c).major (hstep x.q c).arg with
              | mk st2 k2 =>
                rw [hh] at e1 hen
                dsimp only at e1
                subst e1
                cases k2 <;> first | rfl | cases hen
            have hb2 : ∀ m g, (begX { x with q := hstep x.q c } m g).q = hstep x.q c := fun m g => by unfold begX; split <;> rfl
            refine ends_plain (n := hdN st (hstep x.q c)) (by rw [hnx, hen2]) hno ?_ (by show (1 : Int) ≠ 0; decide) (by rw [List.length_map]; rfl) hE (by rw [hb2]; exact i1) (by rw [hb2]; exact hok_step hok hq c) ?_ ?_ (by rw [hb2]; exact i2) ?_ (begX_handed _ _ _) ?_
            · rw [hev]
              unfold hdN
              congr 2
            · unfold begX; split
              · exact Nat.zero_le _
              · exact hu
            · unfold begX; split <;> exact hwr
            · unfold begX
              split
              · next m2 =>
                rw [(enter_text m2).1] at hen
                exact of_decide_eq_true hen
              · exact ct
            · unfold begX; split <;> rfl
      · left
        have e5 : herr x.q c = 5 := by rcases hq.err h0 h1 with h | h | h; exact absurd h e0; exact absurd h e2; exact h
        have := hH.e5 e2 e3 hf e0
        rw [e5] at this
        obtain ⟨r, hr⟩ := hnotes5 (D := D) (K := K) (i := i) e2' e3 hf (cs.err c ▸ e5)
        exact ⟨5, .of ⟨(i, 5), r, hr, rfl⟩, this⟩
  · obtain ⟨ct, cd, cm, cu, co⟩ := hc
    have hT := hp.text hS cd (by omega)
    have hB : bstep D K i ⟨st, .text n t u⟩ c = ⟨some (if n = 1 then ⟨st.map (Fr.feeds [c]), .ended⟩ else ⟨st.map (Fr.feeds [c]), .text (n - 1) t (if t then ustep u c else u)⟩), tnotes K i st n t u c, [⟨2, 0, 0, 0, c, st.length + 1, i⟩]⟩ := rfl
    cases hf : st.any (Fr.full K) with
    | true =>
      left
      obtain ⟨r, hr⟩ := tnotes4 (K := K) (i := i) (n := n) (t := t) (u := u) (c := c) hf
      exact ⟨4, .of ⟨(i, 4), r, hr, rfl⟩, hT.1 hf⟩
    | false =>
      have hT2 := hT.2 hf
      by_cases h6 : x.q.major = 3 ∧ won x.u (x.text - 1) c = false
      · left
        refine ⟨6, .of ⟨(i, 6), [], ?_, rfl⟩, hT2.1 h6⟩
        have ht : t = true := by rw [cm]; simpa using h6.1
        have hxu := cu ht
        rw [hB]
        show tnotes K i st n t u c = _
        unfold tnotes
        rw [if_neg (by simp [hf]), if_pos]
        · rfl
        · have h6' := h6.2
          unfold won at h6'
          rw [hxu, ct] at h6'
          rw [ht, huw]
          cases hw : (ustep u c).wr with
          | true => rfl
          | false =>
            rw [hw] at h6'
            simp at h6'
            have : n = 1 := by omega
            subst this
            simp [h6'.2]
      · have hno : (bstep D K i ⟨st, .text n t u⟩ c).notes = [] := by
          rw [hB]
          show tnotes K i st n t u c = _
          unfold tnotes
          rw [if_neg (by simp [hf]), if_neg]
          · rfl
          · intro hh
            apply h6
            simp only [Bool.and_eq_true] at hh
            obtain ⟨⟨ht, _⟩, h2⟩ := hh
            have hxu := cu ht
            refine ⟨by rw [ht] at cm; simpa using cm.symm, ?_⟩
            unfold won
            rw [hxu, ct]
            cases hw : (ustep u c).wr with
            | true => rfl
            | false =>
              rw [hw] at h2
              simp at h2
              rw [h2.1]
              simp [h2.2]
        have hev : (bstep D K i ⟨st, .text n t u⟩ c).evs = [⟨2, 0, 0, 0, c, st.length + 1, i⟩] := rfl
        have hul : (txtX x c).u.left ≤ 3 := by
          unfold txtX
          dsimp only
          split
          · exact ustep_left _ _ hu
          · exact hu
        by_cases hx1 : 1 < x.text
        · right
          have hnx : (bstep D K i ⟨st, .text n t u⟩ c).next = some ⟨st.map (Fr.feeds [c]), .text (n - 1) t (if t then ustep u c else u)⟩ := by rw [hB]; dsimp only; rw [if_neg (by omega)]
          have hfs := fstep_open hnx rfl
          refine ⟨by rw [hfs]; exact hno, ⟨st.map (Fr.feeds [c]), .text (n - 1) t (if t then ustep u c else u)⟩, txtN st c, txtX x c, ⟨by rw [hfs]; exact hnx, ?_, (hT2.2 h6).1 hx1, ⟨⟨?_, cd, cm, ?_, co⟩, hq, hok, hul, hwr⟩, rfl, rfl⟩⟩
          · rw [hfs, hev, evs_own (n := txtN st c) (show (2 : Int) ≠ 0 by decide) rfl]
            unfold txtN
            congr 2
          · show x.text - 1 = n - 1; rw [ct]
          · intro ht
            have h3 : x.q.major = 3 := by rw [ht] at cm; simpa using cm.symm
            show (if x.q.major = 3 then ustep x.u c else x.u) = _
            rw [if_pos h3, ht, if_pos rfl, cu ht]
        · have hn : n = 1 := by omega
          have hE := (hT2.2 h6).2 (by omega)
          refine ends_plain (n := txtN st c) (by rw [hB]; dsimp only; rw [if_pos hn]) hno ?_ (by show (2 : Int) ≠ 0; decide) (by rw [List.length_map]; rfl) hE hq hok hul hwr co (by show x.text - 1 = 0; omega) rfl rfl
          rw [hev]
          unfold txtN
          congr 2
  · left
    exact ⟨2, .of ⟨(i, 2), [], rfl, rfl⟩, hp.over hS hc.1⟩
end Go.Proofs.Ytchhbcmkhbfpoaa

/- Package auto: Step, that tells nobody. -/
namespace Go.Proofs.Ytchhbcmkhbfpoaa
open Go.RowKit

/-- What a byte comes to: the error, or none. -/
def stepK (S : Int) (i : Nat) (o : Out) : Int := if S ≤ i then 1 else match o.notes with
  | [] => 0
  | m :: _ => m.2
theorem stepK_pos {S : Int} {D K i : Nat} {s : AQ} {c : Int} : stepK S i (fstep D K i s c) = 0 ∨ (1 ≤ stepK S i (fstep D K i s c) ∧ stepK S i (fstep D K i s c) ≤ 7) := by
  unfold stepK
  split
  · exact .inr ⟨by decide, by decide⟩
  · split
    · exact .inl rfl
    · next m r hm =>
      have := (fstep_notes (D := D) (K := K) i s c).2.1 m (by rw [hm]; exact List.mem_cons_self)
      exact .inr ⟨by omega, this.2.2⟩
theorem stepK_ok {S : Int} {D K i : Nat} {s : AQ} {c : Int} (h : stepK S i (fstep D K i s c) = 0) : ¬ S ≤ i ∧ (fstep D K i s c).notes = [] := by
  unfold stepK at h
  split at h
  · cases h
  · next hs =>
    split at h
    · next hn => exact ⟨hs, hn⟩
    · next m r hm =>
      have := (fstep_notes (D := D) (K := K) i s c).2.1 m (by rw [hm]; exact List.mem_cons_self)
      omega
theorem lok_of {D K : Nat} {s : AQ} (h : AOk D K s) : LOk s.st := fun y hy => ⟨(h.frs y hy).left0, (h.frs y hy).left1⟩
section
variable {own : Nat → Nat} {a f D K i : Nat} {x : AC} {s : AQ} {c : Int}
theorem auto_takeP (w : World) (h : Aut w own a f D K s.st x) (hO : AOk D K s) (hM : AM s x) (h0 : 0 ≤ c) (h1 : c < 256) :
    Calls Try.prog 27 #[.pointer (some ⟨a, 0, none⟩), .int .u8 c] w fun e w' => TakeW own a f D K s.st x c e w' ∧ Wi (SA own a) w w' := by
  have ht : 0 ≤ x.text ∧ x.text < 18446744073709551616 ∧ (0 < x.text → x.q.opn = false) := by
    obtain ⟨st, k⟩ := s
    have hc := hM.ctl
    rcases hO.ctl with ⟨q, e, _, _⟩ | ⟨n, t, u, e, n1, n2, _, _⟩ | ⟨e, _⟩
    · dsimp only at e; subst e
      obtain ⟨ct, _, _⟩ := hc
      exact ⟨by omega, by omega, fun h => by omega⟩
    · dsimp only at e; subst e
      obtain ⟨ct, _, _, _, co⟩ := hc
      exact ⟨by omega, by omega, fun _ => co⟩
    · dsimp only at e; subst e
      obtain ⟨_, ct⟩ := hc
      exact ⟨by omega, by omega, fun h => by omega⟩
  exact auto_take w own a f D K s.st x c h (lok_of hO) h0 h1 hM.hq hM.hok ht.1 ht.2.1 ht.2.2 hM.hu
theorem take_err (w : World) (h : Aut w own a f D K s.st x) (hO : AOk D K s) (hM : AM s x) (h0 : 0 ≤ c) (h1 : c < 256) (hi : x.handed = i) (hk : stepK x.S i (fstep D K i s c) ≠ 0) :
    Calls Try.prog 27 #[.pointer (some ⟨a, 0, none⟩), .int .u8 c] w fun e w' => ErrP own a f D K x (stepK x.S i (fstep D K i s c)) e w' ∧ Wi (SA own a) w w' := by
  refine (auto_takeP w h hO hM h0 h1).mono ?_
  rintro e w' ⟨hp, hw⟩
  refine ⟨?_, hw⟩
  by_cases hS : x.S ≤ x.handed
  · have : stepK x.S i (fstep D K i s c) = 1 := by unfold stepK; rw [if_pos (by omega)]
    rw [this]
    exact hp.big hS
  · rcases take_plain (i := i) hO hM h0 h1 hp hS with ⟨k, ⟨m, r, q1, q2⟩, q3⟩ | ⟨hn, _⟩
    · have : stepK x.S i (fstep D K i s c) = k := by unfold stepK; rw [if_neg (by omega), q1]; exact q2
      rw [this]
      exact q3
    · exact absurd (by unfold stepK; rw [if_neg (by omega), hn]) hk
theorem take_ok (w : World) (h : Aut w own a f D K s.st x) (hO : AOk D K s) (hM : AM s x) (h0 : 0 ≤ c) (h1 : c < 256) (hi : x.handed = i) (hk : stepK x.S i (fstep D K i s c) = 0) :
    Calls Try.prog 27 #[.pointer (some ⟨a, 0, none⟩), .int .u8 c] w fun e w' => (∃ s' n x', Goes1 own a f D K i s x c s' n x' e w') ∧ Wi (SA own a) w w' := by
  obtain ⟨k1, k2⟩ := stepK_ok hk
  refine (auto_takeP w h hO hM h0 h1).mono ?_
  rintro e w' ⟨hp, hw⟩
  refine ⟨?_, hw⟩
  rcases take_plain (i := i) hO hM h0 h1 hp (by omega) with ⟨k, ⟨m, r, q1, q2⟩, q3⟩ | ⟨hn, q⟩
  · rw [k2] at q1; cases q1
  · exact q
end
section
variable {own : Nat → Nat} {a f D K : Nat} {x : AC} {st : List Fr} {w : World}
/-- The last stores of a step. -/
theorem step_tailW (A : AutW w own a f D K x) (n0 n : NW) :
    (Instr.storeAt 78 (.pointer (some ⟨w.heap.size, 0, none⟩)) (.agg n.cells)).run Try.prog (w.alloc (.cells n0.cells 78)) = .ok () ((w.alloc (.cells n0.cells 78)).setRow w.heap.size n.cells) ∧
    ∀ w4, (w.alloc (.cells n0.cells 78)).setRow w.heap.size n.cells = w4 → (w4.cell? ⟨a, 15, none⟩ = some (.int .i64 x.handed) ∧ w4.frozen? ⟨a, 15, none⟩ = false) ∧
    ∀ h w5, w4.setCell ⟨a, 15, none⟩ (.int .i64 h) = w5 → (w5.cell? ⟨a, 17, none⟩ = some (.int .i64 x.wrong) ∧ w5.frozen? ⟨a, 17, none⟩ = false) ∧
    ∀ k w6, w5.setCell ⟨a, 17, none⟩ (.int .i64 k) = w6 → AutW w6 own a f D K { x with handed := h, wrong := k } ∧ Blk w6 w.heap.size 78 n.cells ∧ Wi (SA own a) w w6 := by
  have b : Blk (w.alloc (.cells n0.cells 78)) w.heap.size 78 n0.cells := Blk.fresh _ _ _
  have S := below_alloc w (.cells n0.cells 78)
  have hlt : a < w.heap.size := A.blk.lt
  have fr : ¬ SA own a w.heap.size := fun hm => by
    rcases hm with e | hm
    · omega
    · have := A.lo _ hm; omega
  refine ⟨nw_store b n, fun w4 h4 => ?_⟩
  have o4 : Only w.heap.size (w.alloc (.cells n0.cells 78)) w4 := h4 ▸ only_row _ _
  have A4 := (A.on S).only o4 fr
  have b4 : Blk w4 w.heap.size 78 n.cells := h4 ▸ b.setRow _
  have W4 : Wi (SA own a) w w4 := (Wi.ofBelow S).fresh o4 (Nat.le_refl _)
  obtain ⟨_, _, _, _, _, c15, _, _, fz⟩ := au_cells A4.blk
  refine ⟨⟨c15, fz 15⟩, fun h w5 h5 => ?_⟩
  have o5 : Only a w4 w5 := h5 ▸ (Only.refl a w4).put 15 _
  have b5 : Blk w5 a 73 { x with handed := h }.cells := h5 ▸ A4.blk.put 15 _
  have A5 : AutW w5 own a f D K { x with handed := h } := A4.ofA o5 b5 rfl
  have n5 := b4.only o5 (by omega)
  obtain ⟨_, _, _, _, _, _, _, c17, fz5⟩ := au_cells A5.blk
  refine ⟨⟨c17, fz5 17⟩, fun k w6 h6 => ?_⟩
  have o6 : Only a w5 w6 := h6 ▸ (Only.refl a w5).put 17 _
  have b6 : Blk w6 a 73 { x with handed := h, wrong := k }.cells := h6 ▸ A5.blk.put 17 _
  exact ⟨A5.ofA o6 b6 rfl, n5.only o6 (by omega), (W4.trans (.saO o5)).trans (.saO o6)⟩
theorem step_tail (A : Aut w own a f D K st x) (n0 n : NW) :
    (Instr.storeAt 78 (.pointer (some ⟨w.heap.size, 0, none⟩)) (.agg n.cells)).run Try.prog (w.alloc (.cells n0.cells 78)) = .ok () ((w.alloc (.cells n0.cells 78)).setRow w.heap.size n.cells) ∧
    ∀ w4, (w.alloc (.cells n0.cells 78)).setRow w.heap.size n.cells = w4 → (w4.cell? ⟨a, 15, none⟩ = some (.int .i64 x.handed) ∧ w4.frozen? ⟨a, 15, none⟩ = false) ∧
    ∀ h w5, w4.setCell ⟨a, 15, none⟩ (.int .i64 h) = w5 → (w5.cell? ⟨a, 17, none⟩ = some (.int .i64 x.wrong) ∧ w5.frozen? ⟨a, 17, none⟩ = false) ∧
    ∀ k w6, w5.setCell ⟨a, 17, none⟩ (.int .i64 k) = w6 → Aut w6 own a f D K st { x with handed := h, wrong := k } ∧ Blk w6 w.heap.size 78 n.cells ∧ Wi (SA own a) w w6 := by
  have b : Blk (w.alloc (.cells n0.cells 78)) w.heap.size 78 n0.cells := Blk.fresh _ _ _
  have S := below_alloc w (.cells n0.cells 78)
  have hlt : a < w.heap.size := A.blk.lt
  have fr : ¬ SA own a w.heap.size := A.freshA (Nat.le_refl _)
  refine ⟨nw_store b n, fun w4 h4 => ?_⟩
  have o4 : Only w.heap.size (w.alloc (.cells n0.cells 78)) w4 := h4 ▸ only_row _ _
  have A4 := (A.on S).only o4 fr
  have b4 : Blk w4 w.heap.size 78 n.cells := h4 ▸ b.setRow _
  have W4 : Wi (SA own a) w w4 := (Wi.ofBelow S).fresh o4 (Nat.le_refl _)
  obtain ⟨_, _, _, _, _, c15, _, _, fz⟩ := au_cells A4.blk
  refine ⟨⟨c15, fz 15⟩, fun h w5 h5 => ?_⟩
  have o5 : Only a w4 w5 := h5 ▸ (Only.refl a w4).put 15 _
  have b5 : Blk w5 a 73 { x with handed := h }.cells := h5 ▸ A4.blk.put 15 _
  have A5 : Aut w5 own a f D K st { x with handed := h } := A4.ofA o5 b5 rfl rfl rfl
  have n5 := b4.only o5 (by omega)
  obtain ⟨_, _, _, _, _, _, _, c17, fz5⟩ := au_cells A5.blk
  refine ⟨⟨c17, fz5 17⟩, fun k w6 h6 => ?_⟩
  have o6 : Only a w5 w6 := h6 ▸ (Only.refl a w5).put 17 _
  have b6 : Blk w6 a 73 { x with handed := h, wrong := k }.cells := h6 ▸ A5.blk.put 17 _
  exact ⟨A5.ofA o6 b6 rfl rfl rfl, n5.only o6 (by omega), (W4.trans (.saO o5)).trans (.saO o6)⟩
end
/-- What Step answers where something is wrong. -/
def StepE (own : Nat → Nat) (a f D K i : Nat) (k : Int) (e : Ending) (w' : World) : Prop :=
  e = .returned (.int .i64 k) ∧ ∃ x', AutW w' own a f D K x' ∧ x'.handed = (i : Int) + 1 ∧ x'.wrong = k
/-- .. where nothing is. -/
def StepO (own : Nat → Nat) (a f D K i : Nat) (s : AQ) (x : AC) (c : Int) (e : Ending) (w' : World) : Prop :=
  e = .returned (.int .i64 0) ∧ ∃ s' x', (fstep D K i s c).next = some s' ∧ Aut w' own a f D K s'.st x' ∧ AM s' x' ∧ x'.handed = (i : Int) + 1 ∧ x'.S = x.S
set_option maxRecDepth 4000 in
set_option maxHeartbeats 1000000 in
/-- Whoever is told: where something is wrong nobody is. -/
theorem auto_Step_err (w : World) (own : Nat → Nat) (a f D K i : Nat) (s : AQ) (x : AC) (c : Int) (V : Value) (h : Aut w own a f D K s.st x) (hO : AOk D K s) (hM : AM s x) (h0 : 0 ≤ c) (h1 : c < 256) (hi : x.handed = i) (hi2 : (i : Int) < 4611686018427387904) (hk : stepK x.S i (fstep D K i s c) ≠ 0) :
    Calls Try.prog 11 #[.pointer (some ⟨a, 0, none⟩), .int .u8 c, V] w fun e w' => StepE own a f D K i (stepK x.S i (fstep D K i s c)) e w' ∧ Wi (SA own a) w w' := by
  have HT := Lib.hid (take_err (c := c) w h hO hM h0 h1 hi hk)
  have c17 := (au_cells h.blk).2.2.2.2.2.2.2.1
  rw [hM.wrong] at c17
  generalize stepK x.S i (fstep D K i s c) = k at *
  have HX : Hid (∀ w2, (∃ x', AutW w2 own a f D K x' ∧ x'.handed = x.handed) → Wi (SA own a) w w2 → (Instr.storeAt 78 (.pointer (some ⟨w2.heap.size, 0, none⟩)) (.agg nw0.cells)).run Try.prog (w2.alloc (.cells nw0.cells 78)) = .ok () ((w2.alloc (.cells nw0.cells 78)).setRow w2.heap.size nw0.cells) ∧
    ∀ w4, (w2.alloc (.cells nw0.cells 78)).setRow w2.heap.size nw0.cells = w4 → (w4.cell? ⟨a, 15, none⟩ = some (.int .i64 i) ∧ w4.frozen? ⟨a, 15, none⟩ = false) ∧
    ∀ w5, w4.setCell ⟨a, 15, none⟩ (.int .i64 ((i : Int) + 1)) = w5 → ((∃ v, w5.cell? ⟨a, 17, none⟩ = some v) ∧ w5.frozen? ⟨a, 17, none⟩ = false) ∧
    StepE own a f D K i k (.returned (.int .i64 k)) (w5.setCell ⟨a, 17, none⟩ (.int .i64 k)) ∧ Wi (SA own a) w (w5.setCell ⟨a, 17, none⟩ (.int .i64 k))) := by
    rintro w2 ⟨x', A, hh⟩ hw
    obtain ⟨t1, t2⟩ := step_tailW A nw0 nw0
    refine ⟨t1, fun w4 h4 => ?_⟩
    obtain ⟨⟨t3, t4⟩, t5⟩ := t2 w4 h4
    refine ⟨⟨by rw [t3, hh, hi], t4⟩, fun w5 h5 => ?_⟩
    obtain ⟨⟨t6, t7⟩, t8⟩ := t5 _ w5 h5
    obtain ⟨t9, _, t10⟩ := t8 k _ rfl
    exact ⟨⟨⟨_, t6⟩, t7⟩, ⟨rfl, _, t9, rfl, rfl⟩, hw.trans t10⟩
  have HZ := nw_zero
  unfold ErrP at HT
  generalize nw0.cells = N0 at *
  clear h hO hM h0 h1 hi
  have hi0 : (0 : Int) ≤ (i : Int) := by omega
  generalize (i : Int) = I at *
  generalize StepE own a f D K i k = Pz at *
  go_enter Try.func11, Try.ntmps11
  go_wp2_with fail
  refine HT.out.mono ?_
  rintro e w2 ⟨⟨rfl, hx⟩, hw⟩
  obtain ⟨t1, t2⟩ := HX.out w2 hx hw
  have H1 := Lib.hid t1
  have H2 := Lib.hid (t2 _ rfl)
  clear t1 t2 hx hw HX HT
  obtain ⟨w4, hw4⟩ : ∃ w4, (w2.alloc (.cells N0 78)).setRow w2.heap.size N0 = w4 := ⟨_, rfl⟩
  rw [hw4] at H1 H2
  obtain ⟨⟨q1, q2⟩, q3⟩ := H2.out
  obtain ⟨⟨⟨v, q4⟩, q5⟩, q6⟩ := q3 _ rfl
  have HF := Lib.hid q6
  clear q3 q6 H2
  go_wp2_with ((with_reducible refine is_store 78 rfl ?_); (with_reducible refine wpList_store_run rfl rfl H1.out ?_ ?_ ?_); (· rfl); (· rfl))
  go_ret
  exact HF.out
set_option maxRecDepth 100000 in
theorem run_tell_nil (W : World) : Sem.run Try.prog (binOp .neq 49 .nilFunc .nilFunc) W = .ok (.bool false) W := rfl
set_option maxRecDepth 100000 in
theorem run_tell_func (F : Fn) (p q : Array Value) (W : World) : Sem.run Try.prog (binOp .neq 49 (.func F p q) .nilFunc) W = .ok (.bool true) W := rfl
set_option maxRecDepth 4000 in
set_option maxHeartbeats 1000000 in
theorem auto_Step0 (w : World) (own : Nat → Nat) (a f D K i : Nat) (s : AQ) (x : AC) (c : Int) (h : Aut w own a f D K s.st x) (hO : AOk D K s) (hM : AM s x) (h0 : 0 ≤ c) (h1 : c < 256) (hi : x.handed = i) (hi2 : (i : Int) < 4611686018427387904) (hk : stepK x.S i (fstep D K i s c) = 0) :
    Calls Try.prog 11 #[.pointer (some ⟨a, 0, none⟩), .int .u8 c, .nilFunc] w fun e w' => StepO own a f D K i s x c e w' ∧ Wi (SA own a) w w' := by
  have HT : Hid (Calls Try.prog 27 #[.pointer (some ⟨a, 0, none⟩), .int .u8 c] w fun e w' => ∃ n : NW, e = .returned (.tuple #[.agg n.cells, .int .i64 0]) ∧ (∃ s' x', (fstep D K i s c).next = some s' ∧ Aut w' own a f D K s'.st x' ∧ AM s' x' ∧ x'.handed = i ∧ x'.S = x.S) ∧ Wi (SA own a) w w') := by
    refine (take_ok (c := c) w h hO hM h0 h1 hi hk).mono ?_
    rintro e w' ⟨⟨s', n, x', G⟩, hw⟩
    exact ⟨n, G.ok.1, ⟨s', x', G.next, G.ok.2, G.am, G.handed.trans hi, G.S⟩, hw⟩
  have c17 := (au_cells h.blk).2.2.2.2.2.2.2.1
  rw [hM.wrong] at c17
  have HX : Hid (∀ w2 (n : NW), (∃ s' x', (fstep D K i s c).next = some s' ∧ Aut w2 own a f D K s'.st x' ∧ AM s' x' ∧ x'.handed = i ∧ x'.S = x.S) → Wi (SA own a) w w2 → (Instr.storeAt 78 (.pointer (some ⟨w2.heap.size, 0, none⟩)) (.agg n.cells)).run Try.prog (w2.alloc (.cells nw0.cells 78)) = .ok () ((w2.alloc (.cells nw0.cells 78)).setRow w2.heap.size n.cells) ∧
    ∀ w4, (w2.alloc (.cells nw0.cells 78)).setRow w2.heap.size n.cells = w4 → (w4.cell? ⟨a, 15, none⟩ = some (.int .i64 i) ∧ w4.frozen? ⟨a, 15, none⟩ = false) ∧
    ∀ w5, w4.setCell ⟨a, 15, none⟩ (.int .i64 ((i : Int) + 1)) = w5 → ((∃ v, w5.cell? ⟨a, 17, none⟩ = some v) ∧ w5.frozen? ⟨a, 17, none⟩ = false) ∧
    StepO own a f D K i s x c (.returned (.int .i64 0)) (w5.setCell ⟨a, 17, none⟩ (.int .i64 0)) ∧ Wi (SA own a) w (w5.setCell ⟨a, 17, none⟩ (.int .i64 0))) := by
    rintro w2 n ⟨s', x', hn, A, hm, hh, hS⟩ hw
    obtain ⟨t1, t2⟩ := step_tail A nw0 n
    refine ⟨t1, fun w4 h4 => ?_⟩
    obtain ⟨⟨t3, t4⟩, t5⟩ := t2 w4 h4
    refine ⟨⟨by rw [t3, hh], t4⟩, fun w5 h5 => ?_⟩
    obtain ⟨⟨t6, t7⟩, t8⟩ := t5 _ w5 h5
    obtain ⟨t9, _, t10⟩ := t8 0 _ rfl
    exact ⟨⟨⟨_, t6⟩, t7⟩, ⟨rfl, s', _, hn, t9, ⟨hm.ctl, hm.hq, hm.hok, hm.hu, rfl⟩, rfl, hS⟩, hw.trans t10⟩
  have HZ := nw_zero
  generalize nw0.cells = N0 at *
  clear h hO hM h0 h1 hi hk
  generalize StepO own a f D K i s x c = Pz at *
  have hi0 : (0 : Int) ≤ (i : Int) := by omega
  generalize (i : Int) = I at *
  have RN := run_tell_nil
  go_enter Try.func11, Try.ntmps11
  go_wp2_with fail
  refine HT.out.mono ?_
  rintro e w2 ⟨n, rfl, hx, hw⟩
  obtain ⟨t1, t2⟩ := HX.out w2 n hx hw
  have H1 := Lib.hid t1
  have H2 := Lib.hid (t2 _ rfl)
  clear t1 t2 hx hw HX HT
  generalize n.cells = N2 at *
  obtain ⟨w4, hw4⟩ : ∃ w4, (w2.alloc (.cells N0 78)).setRow w2.heap.size N2 = w4 := ⟨_, rfl⟩
  rw [hw4] at H1 H2
  obtain ⟨⟨q1, q2⟩, q3⟩ := H2.out
  obtain ⟨⟨⟨v, q4⟩, q5⟩, q6⟩ := q3 _ rfl
  have HF := Lib.hid q6
  clear q3 q6 H2
  go_wp2_with ((with_reducible refine is_store 78 rfl ?_); (with_reducible refine wpList_store_run rfl rfl H1.out ?_ ?_ ?_); (· rfl); (· rfl))
  go_ret
  exact HF.out
end Go.Proofs.Ytchhbcmkhbfpoaa
