/- Layer 14's law of steps: a round's step. -/
import Derived.Test.YtchhbcmkhbfpoaaKBL
import Derived.Shelf.Abstract
import Derived.Test.YtchhbcmkhbfpoaaKBD
import Derived.Test.YtchhbcmkhbfpoaaKAX
import Derived.OpenShut
import Derived.Test.YtchhbcmkhbfpoaaKAA
import Derived.Carry
namespace Go.Proofs.Ytchhbcmkhbfpoaa
open Go.RowKit

section
variable {D K : Nat} {B : List Int}
theorem fr_det {i s j s1 N1 E1} (h : FR D K B i s j s1 N1 E1) : ∀ {s2 N2 E2}, FR D K B i s j s2 N2 E2 → s1 = s2 ∧ N1 = N2 ∧ E1 = E2 := by
  induction h with
  | refl i s =>
    intro s2 N2 E2 h
    cases h with
    | refl => exact ⟨rfl, rfl, rfl⟩
    | cons hi hn g => have := g.le; omega
  | @cons i s s' j s'' N E hi hn g ih =>
    intro s2 N2 E2 h
    cases h with
    | refl => have := g.le; omega
    | @cons _ _ s3 _ _ N3 E3 hi' hn' g' =>
      rw [hn] at hn'
      injection hn' with e
      subst e
      obtain ⟨a, b, c⟩ := ih g'
      exact ⟨a, by rw [b], by rw [c]⟩
theorem ahead_next {S i : Nat} {s s' : AQ} {E1 E2 : List AEv} (h : Ahead D K S B i s E1 E2) (hi : i < B.length) (hno : ∀ n ∈ scNotes B D K S, i < n.1) (hs : (fstep D K i s (B.getD i 0)).next = some s') : ∃ E3, E2 = (fstep D K i s (B.getD i 0)).evs ++ E3 ∧ (∀ e ∈ E3, i < e.pl) ∧ Ahead D K S B (i + 1) s' (E1 ++ (fstep D K i s (B.getD i 0)).evs) E3 := by
  obtain ⟨h1, h2, s2, E3, h3, h4, h5⟩ := h.good hi hno
  rw [hs] at h3
  injection h3 with h3
  subst h3
  obtain ⟨s4, F1, F2, hA⟩ := ahead_of (D := D) (K := K) (S := S) (B := B) (i + 1) hi (fun n hn => hno n hn)
  have g := h.run.trans (FR.one hi hs)
  obtain ⟨q1, q2, q3⟩ := fr_det g hA.run
  subst q1 q3
  have : F2 = E3 := by
    have e1 := hA.evs
    rw [h.evs, h4, ← List.append_assoc] at e1
    exact (List.append_cancel_left e1).symm
  subst this
  exact ⟨F2, h4, h5, hA⟩
theorem first_at {S : Int} (hS : 0 ≤ S) {i : Nat} {s : AQ} {E1 E2 : List AEv} (h : Ahead D K S.toNat B i s E1 E2) (hi : i < B.length) (hall : ∀ n ∈ scNotes B D K S.toNat, i ≤ n.1) (hex : ∃ n ∈ scNotes B D K S.toNat, n.1 = i) :
    firstN none (scNotes B D K S.toNat) = some (i, stepK S i (fstep D K i s (B.getD i 0))) ∧ stepK S i (fstep D K i s (B.getD i 0)) ≠ 0 := by
  obtain ⟨b1, b2⟩ := h.bad hi hex
  rcases firstN_none (scNotes B D K S.toNat) with ⟨h0, _⟩ | ⟨m, hf, hm, hl⟩
  · obtain ⟨n, hn, _⟩ := hex
    rw [h0] at hn; cases hn
  · obtain ⟨n, hn, hni⟩ := hex
    have hmi : m.1 = i := by
      have h1 := hall m hm
      have h2 := hl n hn
      unfold Note.leq at h2
      omega
    have hm1 := (first_lt hm hl).2
    rw [hf]
    by_cases hs : S ≤ i
    · have e : stepK S i (fstep D K i s (B.getD i 0)) = 1 := by unfold stepK; rw [if_pos hs]
      have h1 := hl _ (b1 (by omega))
      unfold Note.leq at h1
      dsimp only at h1
      rw [e]
      refine ⟨?_, by decide⟩
      rw [show m = (i, 1) from Prod.ext hmi (by show m.2 = 1; omega)]
    · obtain ⟨e, r, hx, hin, hle⟩ := b2 (by omega)
      have e' : stepK S i (fstep D K i s (B.getD i 0)) = e := by unfold stepK; rw [if_neg hs, hx]
      have h1 := hl _ hin
      have h2 := hle m hm hmi
      unfold Note.leq at h1
      dsimp only at h1
      rw [e']
      refine ⟨?_, by omega⟩
      rw [show m = (i, e) from Prod.ext hmi (by show m.2 = e; omega)]
end
/-- What stands fast in the law. -/
structure LFix (w wR : World) (own : Nat → Nat) (a : Nat) (D K : Nat) (S : Int) (A : Option Addr) (cap : Nat) (L : List Int) (B g gs gt : Nat) : Prop where
  D2 : D ≤ 64
  S0 : 0 ≤ S
  len : L.length ≤ 300
  byte : ByteL L
  rd : Rd w w.heap.size .u8 A L
  scan : Sn wR B g A cap L D K S (scNotes L D K S.toNat) (scTop L D K).evs
  sa : ∀ j, SA own a j → w.heap.size ≤ j ∧ j < B
  wB : w.heap.size ≤ B
  BR : B ≤ wR.heap.size
  gs1 : wR.heap.size ≤ gs
  gt1 : wR.heap.size ≤ gt
  st : gs ≠ gt
  evl : (scTop L D K).evs.length ≤ 1000000000
/-- Nothing was wrong so far. -/
def GoodP (own : Nat → Nat) (a f D K : Nat) (S : Int) (L : List Int) (gt : Nat) (k : Nat) (W : World) : Prop :=
  (∀ n ∈ scNotes L D K S.toNat, k ≤ n.1) ∧ ∃ s E1 E2 x, Ahead D K S.toNat L k s E1 E2 ∧ Aut W own a f D K s.st x ∧ AM s x ∧ AOk D K s ∧ x.handed = k ∧ x.S = S ∧ Blk W gt 3 #[.int .i64 (E1.length : Int)]
/-- A verdict was told. -/
def BadP (a D K : Nat) (S : Int) (L : List Int) (k : Nat) (W : World) : Prop :=
  ∃ m x, firstN none (scNotes L D K S.toNat) = some m ∧ m.1 < k ∧ m.2 ≠ 0 ∧ Blk W a 73 (AC.cells x) ∧ x.handed = (m.1 : Int) + 1 ∧ x.wrong = m.2
structure LS0 (w wR : World) (own : Nat → Nat) (a f D K : Nat) (S : Int) (L : List Int) (B g gs gt : Nat) (k : Nat) (W : World) : Prop where
  low : Below w.heap.size w W
  same : SameAt B wR W
  cs : Blk W gs 31 #[.pointer (some ⟨g, 0, none⟩)]
  gtl : gt < W.heap.size
  sal : ∀ j, SA own a j → j < W.heap.size
  ph : GoodP own a f D K S L gt k W ∨ BadP a D K S L k W
section
variable {w wR : World} {own : Nat → Nat} {a f D K : Nat} {S : Int} {A : Option Addr} {cap : Nat} {L : List Int} {B g gs gt k : Nat} {W W' : World}
theorem GoodP.on (h : GoodP own a f D K S L gt k W) (hb : Below W.heap.size W W') : GoodP own a f D K S L gt k W' := by
  obtain ⟨h1, s, E1, E2, x, h2, h3, h4, h5, h6, h7, h8⟩ := h
  exact ⟨h1, s, E1, E2, x, h2, h3.on hb, h4, h5, h6, h7, h8.on hb⟩
theorem BadP.on (h : BadP a D K S L k W) (hb : Below W.heap.size W W') : BadP a D K S L k W' := by
  obtain ⟨m, x, h1, h2, h3, h4, h5, h6⟩ := h
  exact ⟨m, x, h1, h2, h3, h4.on hb, h5, h6⟩
theorem LS0.on (h : LS0 w wR own a f D K S L B g gs gt k W) (hb : Below W.heap.size W W') : LS0 w wR own a f D K S L B g gs gt k W' :=
  ⟨h.low.trans (hb.mono h.low.size), h.same.wi (S := fun _ => False) (Wi.ofBelow hb) (fun _ h => h.elim), h.cs.on hb, Nat.lt_of_lt_of_le h.gtl hb.size, fun j hj => Nat.lt_of_lt_of_le (h.sal j hj) hb.size, h.ph.imp (·.on hb) (·.on hb)⟩
/-- A captured place. -/
structure GiP (wR : World) (gs gt : Nat) (gi k : Nat) (W : World) : Prop where
  ci : Blk W gi 3 #[.int .i64 (k : Int)]
  gi1 : wR.heap.size ≤ gi
  gi2 : gi ≠ gs
  gi3 : gi ≠ gt
theorem GiP.on {gi : Nat} (h : GiP wR gs gt gi k W) (hb : Below W.heap.size W W') : GiP wR gs gt gi k W' := ⟨h.ci.on hb, h.gi1, h.gi2, h.gi3⟩
/-- A step where nothing is wrong. -/
theorem step_good (F : LFix w wR own a D K S A cap L B g gs gt) (h : LS0 w wR own a f D K S L B g gs gt k W) (hG : GoodP own a f D K S L gt k W) (hno : ∀ n ∈ scNotes L D K S.toNat, k < n.1) (hk : k < L.length) {gi go : Nat} (hi : GiP wR gs gt gi k W) (hgo : go ≠ gi ∧ go ≠ gs ∧ go ≠ gt ∧ wR.heap.size ≤ go) (hc : Blk W go 4 #[.bool true]) :
    Calls Try.prog 11 #[.pointer (some ⟨a, 0, none⟩), .int .u8 (L.getD k 0), .func (.func 12) #[] #[.pointer (some ⟨gt, 0, none⟩), .pointer (some ⟨gs, 0, none⟩), .pointer (some ⟨gi, 0, none⟩), .pointer (some ⟨go, 0, none⟩)]] W fun e W' =>
      e = .returned (.int .i64 0) ∧ ∃ (x' : AC) (n' : Nat), Blk W' a 73 x'.cells ∧ AutW W' own a f D K x' ∧ x'.handed = (k : Int) + 1 ∧ (x'.done && x'.wrong == 0) = ((scTop L D K).ok && decide ((k : Int) + 1 = ((scTop L D K).to : Int))) ∧ Cap W' gt gs gi go g n' k ∧ (n' = (scTop L D K).evs.length ∨ ∃ e, (scTop L D K).evs[n']? = some e ∧ k < e.pl) ∧ LS0 w wR own a f D K S L B g gs gt (k + 1) W' := by
  obtain ⟨_, s, E1, E2, x, hA, hAu, hM, hO, hh, hS, ht⟩ := hG
  have hgood := hA.good hk hno
  obtain ⟨g1, g2, s', _, g3, _, _⟩ := hgood
  obtain ⟨E3, e1, e2, hA'⟩ := ahead_next hA hk hno g3
  have hcb := F.byte (L.getD k 0) (by rw [List.getD_eq_getElem?_getD, List.getElem?_eq_getElem hk]; exact List.getElem_mem hk)
  have hstep : stepK x.S k (fstep D K k s (L.getD k 0)) = 0 := by
    unfold stepK
    rw [hS, if_neg (by have := F.S0; omega), g2]
  have hE := hA.evs
  rw [e1] at hE
  have hpl := (fstep_notes (D := D) (K := K) k s (L.getD k 0)).2.2
  have hgne : gt ≠ gs ∧ gt ≠ gi ∧ gt ≠ go ∧ gs ≠ gi ∧ gs ≠ go ∧ gi ≠ go := ⟨Ne.symm F.st, Ne.symm hi.gi3, Ne.symm hgo.2.2.1, Ne.symm hi.gi2, Ne.symm hgo.2.1, Ne.symm hgo.1⟩
  have hT : TellC 12 #[.pointer (some ⟨gt, 0, none⟩), .pointer (some ⟨gs, 0, none⟩), .pointer (some ⟨gi, 0, none⟩), .pointer (some ⟨go, 0, none⟩)] (TT gt go) (fun t V => Cap V gt gs gi go g (E1.length + t.length) k ∧ SameAt B wR V) ([] ++ ((fstep D K k s (L.getD k 0)).evs ++ [])) := by
    refine ⟨fun told rest e V hall hR => ?_, fun told V V' hR hb => ⟨hR.1.on hb, hR.2.wi (S := fun _ => False) (Wi.ofBelow hb) (fun _ h => h.elim)⟩⟩
    rw [List.nil_append, List.append_nil] at hall
    have hn : (scTop L D K).evs[E1.length + told.length]? = some e := by
      rw [hE, hall]
      simp
    refine (closure_any wR B g A cap L D K S _ _ F.scan gt gs gi go hgne ⟨F.gt1, F.gs1, hi.gi1, hgo.2.2.2⟩ F.evl V _ k e hn (hpl e (by rw [hall]; simp)) hR.1 hR.2).mono ?_
    rintro r V' ⟨rfl, hcap, hw⟩
    refine ⟨rfl, ⟨?_, hR.2.wi hw (fun j hj => ?_)⟩, hw⟩
    · rw [List.length_append, List.length_singleton, ← Nat.add_assoc]; exact hcap
    · right
      rcases hj with rfl | rfl
      · exact F.gt1
      · exact hgo.2.2.2
  have hcap0 : Cap W gt gs gi go g (E1.length + ([] : List AEv).length) k := ⟨ht, h.cs, hi.ci, hc⟩
  have hnS : ∀ j, wR.heap.size ≤ j → ¬ SA own a j := fun j hj hs => by have := (F.sa j hs).2; have := F.BR; omega
  refine (auto_StepT W own a f D K k s x (L.getD k 0) hAu hO hM hcb.1 hcb.2 hh (by have := F.len; omega) hstep F.D2 _ _ _ _ [] [] hT ⟨hcap0, h.same⟩ (fun j hj => by rcases hj with rfl | rfl; exact h.gtl; exact hc.lt) (fun j hj => by rcases hj with rfl | rfl; exact hnS _ F.gt1; exact hnS _ hgo.2.2.2) (fun V hR hw => ⟨hR.1.wi hw (hnS _ F.gt1) (hnS _ F.gs1) (hnS _ hi.gi1) (hnS _ hgo.2.2.2), hR.2.wi hw (fun j hj => .inl (F.sa j hj).2)⟩)
    (enters_of Try.func12 (by kernel_rfl) rfl)).mono ?_
  rintro e V ⟨⟨rfl, s2, x', n1, n2, n3, n4, n5⟩, ⟨r1, r2⟩, hw⟩
  rw [g3] at n1
  injection n1 with n1
  subst n1
  rw [List.nil_append] at r1
  have hO' : AOk D K s' := by
    obtain ⟨s2, h2, h3⟩ := hO.step (i := k) hcb.1 hcb.2 g2
    rw [g3] at h2
    injection h2 with h2
    subst h2
    exact h3
  have hfin := hA'.fin
  refine ⟨rfl, x', _, n2.blk, n2.weak, n4, ?_, r1, ?_, ?_⟩
  · have hd : x'.done = s'.isFin := by
      have hc := n3.ctl
      obtain ⟨st, ct⟩ := s'
      unfold AQ.isFin
      cases ct with
      | head q => obtain ⟨_, cd, _⟩ := hc; rw [cd]
      | text n t u => obtain ⟨_, cd, _⟩ := hc; rw [cd]
      | ended => exact absurd hc (fun h => h)
      | fin => obtain ⟨cd, _⟩ := hc; rw [cd]
    rw [hd, n3.wrong]
    cases hf : s'.isFin with
    | true =>
      obtain ⟨q1, q2⟩ := hfin.1 hf
      rw [q1, q2]
      simp
    | false =>
      cases hok : (scTop L D K).ok with
      | false => rfl
      | true =>
        have : ¬ ((k : Int) + 1 = ((scTop L D K).to : Int)) := fun e => by
          have := hfin.2 ⟨hok, by omega⟩
          rw [hf] at this; cases this
        simp [this]
  · rw [hE]
    cases E3 with
    | nil => left; simp
    | cons y r => right; exact ⟨y, by simp, e2 y List.mem_cons_self⟩
  · refine ⟨h.low.trans (hw.below (fun j hj => ?_) h.low.size), r2, r1.cs, Nat.lt_of_lt_of_le h.gtl hw.size, fun j hj => Nat.lt_of_lt_of_le (h.sal j hj) hw.size, .inl ⟨fun n hn => hno n hn, s', _, E3, x', hA', n2, n3, hO', ?_, n5.trans hS, ?_⟩⟩
    · have := F.wB; have := F.BR; have := F.gt1
      rcases hj with hj | hj | hj
      · exact (F.sa j hj).1
      · omega
      · have := hgo.2.2.2; omega
    · rw [n4]; simp
    · rw [List.length_append]; exact r1.ct
/-- A step where something is, or was, wrong. -/
theorem step_bad (F : LFix w wR own a D K S A cap L B g gs gt) (h : LS0 w wR own a f D K S L B g gs gt k W) (hx : (GoodP own a f D K S L gt k W ∧ ∃ n ∈ scNotes L D K S.toNat, n.1 = k) ∨ BadP a D K S L k W) (hk : k < L.length) {gi : Nat} (hi : GiP wR gs gt gi k W) (V : Value) :
    ∃ m : Note, firstN none (scNotes L D K S.toNat) = some m ∧ m.1 ≤ k ∧ m.2 ≠ 0 ∧ Calls Try.prog 11 #[.pointer (some ⟨a, 0, none⟩), .int .u8 (L.getD k 0), V] W fun e W' =>
      e = .returned (.int .i64 m.2) ∧ ∃ (x' : AC), Blk W' a 73 x'.cells ∧ x'.handed = (m.1 : Int) + 1 ∧ x'.wrong = m.2 ∧ GiP wR gs gt gi k W' ∧ LS0 w wR own a f D K S L B g gs gt (k + 1) W' := by
  have hcb := F.byte (L.getD k 0) (by rw [List.getD_eq_getElem?_getD, List.getElem?_eq_getElem hk]; exact List.getElem_mem hk)
  rcases hx with ⟨⟨hall, s, E1, E2, x, hA, hAu, hM, hO, hh, hS, ht⟩, hex⟩ | ⟨m, x, h1, h2, h3, h4, h5, h6⟩
  · subst hS
    obtain ⟨hf, hne⟩ := first_at F.S0 hA hk hall hex
    refine ⟨_, hf, Nat.le_refl _, hne, ?_⟩
    have hnS : ∀ j, wR.heap.size ≤ j → ¬ SA own a j := fun j hj hs => by have := (F.sa j hs).2; have := F.BR; omega
    refine (auto_Step_err W own a f D K k s x (L.getD k 0) V hAu hO hM hcb.1 hcb.2 hh (by have := F.len; omega) hne).mono ?_
    rintro e W' ⟨⟨rfl, x', q1, q2, q3⟩, hw⟩
    refine ⟨rfl, x', q1.blk, q2, q3, ⟨hw.blk hi.ci (hnS _ hi.gi1), hi.gi1, hi.gi2, hi.gi3⟩, ⟨h.low.trans (hw.below (fun j hj => (F.sa j hj).1) h.low.size), h.same.wi hw (fun j hj => .inl (F.sa j hj).2), hw.blk h.cs (hnS _ F.gs1), Nat.lt_of_lt_of_le h.gtl hw.size, fun j hj => Nat.lt_of_lt_of_le (h.sal j hj) hw.size, .inr ⟨_, x', hf, Nat.lt_succ_self _, hne, q1.blk, q2, q3⟩⟩⟩
  · refine ⟨m, h1, by omega, h3, ?_⟩
    refine (auto_StepW W a x (L.getD k 0) V h4 (by rw [h6]; exact h3)).mono ?_
    rintro e W' ⟨rfl, rfl⟩
    refine ⟨by rw [h6], x, h4, h5, h6, hi, ⟨h.low, h.same, h.cs, h.gtl, h.sal, .inr ⟨m, x, h1, by omega, h3, h4, h5, h6⟩⟩⟩
end
end Go.Proofs.Ytchhbcmkhbfpoaa

/- Package auto: Whole. -/
namespace Go.Proofs.Ytchhbcmkhbfpoaa
open Go.RowKit

/-- The verdict of bytes. -/
noncomputable def wv (D K : Nat) (S : Int) (L : List Int) : Int × Int := ((svrd D K S.toNat 0 aq0 L).1, ((svrd D K S.toNat 0 aq0 L).2 : Int))
section
variable {D K : Nat} {S : Int} {i : Nat} {s : AQ} {c : Int} {r : List Int}
theorem svrd_err (hS : 0 ≤ S) (h : stepK S i (fstep D K i s c) ≠ 0) : svrd D K S.toNat i s (c :: r) = (stepK S i (fstep D K i s c), i) := by
  rw [svrd_cons]
  unfold stepK at h ⊢
  by_cases hs : S ≤ i
  · rw [if_pos (by omega), if_pos hs]
  · rw [if_neg (by omega), if_neg hs]
    rw [if_neg hs] at h
    cases hn : (fstep D K i s c).notes with
    | nil => rw [hn] at h; exact absurd rfl h
    | cons m t => rfl
theorem svrd_ok {s' : AQ} (hS : 0 ≤ S) (h : stepK S i (fstep D K i s c) = 0) (hn : (fstep D K i s c).next = some s') : svrd D K S.toNat i s (c :: r) = svrd D K S.toNat (i + 1) s' r := by
  obtain ⟨h1, h2⟩ := stepK_ok h
  rw [svrd_cons, if_neg (by omega), h2, hn]
end
theorem aok_next {D K i : Nat} {s s' : AQ} {c S : Int} (h : AOk D K s) (h0 : 0 ≤ c) (h1 : c < 256) (hk : stepK S i (fstep D K i s c) = 0) (hn : (fstep D K i s c).next = some s') : AOk D K s' := by
  obtain ⟨s2, h2, h3⟩ := h.step (i := i) h0 h1 (stepK_ok hk).2
  rw [hn] at h2
  injection h2 with h2
  subst h2
  exact h3
set_option maxRecDepth 100000 in
set_option maxHeartbeats 1000000 in
theorem auto_Whole (w : World) (A : Option Addr) (cap : Nat) (L : List Int) (D K : Nat) (S : Int) (hr : Rd w w.heap.size .u8 A L) (hb : ByteL L) (hlen : L.length ≤ 1000000000) (h1 : 1 ≤ D) (h2 : D ≤ 64) (k1 : 1 ≤ K) (k2 : K ≤ 1024) (s1 : 1 ≤ S) (s2 : S ≤ 2305843009213693951) :
    Calls Try.prog 21 #[.slice A L.length cap, vL D K S] w fun e w' => e = .returned (.agg (vcells (wv D K S L))) ∧ Below w.heap.size w w' := by
  obtain ⟨w1, hw1, b1, S1⟩ := iblk1 w 24 #[.int .i64 D, .int .i64 K, .int .i64 S]
  have hsz1 : w1.heap.size = w.heap.size + 1 := by rw [← hw1]; simp
  obtain ⟨w2, hw2, b2, S2⟩ := iblk1 w1 51 #[.int .i64 0, .int .i64 0]
  rw [hsz1] at b2
  have b1' := b1.on S2
  obtain ⟨p0, p1, p2⟩ := lblk b1'
  have S12 : Below w.heap.size w w2 := S1.trans (S2.mono S1.size)
  have hsz2 : w2.heap.size = w.heap.size + 2 := by rw [← hw2]; simp [hsz1]
  have HN := Lib.hid (auto_New w2 D K S h1 h2 k1 k2 s1 s2)
  have HZ := vd_zero
  -- what comes behind New
  have HX : Hid (∀ w3 own a s f, Aut w3 own a f D K [] (ac0 D K S s) → w2.heap.size ≤ a → (∀ j, own j ≠ 0 → w2.heap.size ≤ j) → Below w2.heap.size w2 w3 →
      (∀ j, SA own a j → w.heap.size + 2 ≤ j) ∧ Blk w3 (w.heap.size + 1) 51 #[.int .i64 0, .int .i64 0] ∧ Below w.heap.size w w3 ∧ w.heap.size + 2 ≤ w3.heap.size ∧ Rd w3 w.heap.size .u8 A L) := fun w3 own a s f hA ha ho hb3 => by
    have hbw : Below w.heap.size w w3 := S12.trans (hb3.mono (by omega))
    refine ⟨fun j hj => ?_, b2.on hb3, hbw, by have := hb3.size; omega, hr.below hbw⟩
    rcases hj with rfl | hj
    · omega
    · have := ho j hj; omega
  have HLen : Hid ((L.length : Int) ≤ 1000000000) := by show _ ≤ _; omega
  have HBL := Lib.hid hb
  have HS0 : Hid (0 ≤ S) := by show _ ≤ _; omega
  clear S1 S2 S12 b1 b2 b1' hr hb hsz2 hlen h1 h2 k1 k2 s1 s2
  unfold vL at HN ⊢
  unfold vcells at HZ ⊢
  dsimp only at HZ ⊢
  generalize hN : (L.length : Int) = N at *
  have HN2 := Lib.hid hN
  go_enter Try.func21, Try.ntmps21
  go_wp2_with fail
  refine HN.out.mono ?_
  rintro e w3 ⟨own, a, s, f, rfl, hA, ha, ho, hb3⟩
  obtain ⟨hSA, bV, hb, hsz, hrd⟩ := HX.out w3 own a s f hA ha ho hb3
  have HSA := Lib.hid hSA
  have HBV := Lib.hid bV
  have HB := Lib.hid hb
  have HSZ := Lib.hid hsz
  have HRD := Lib.hid hrd
  have HA := Lib.hid hA
  have HRES : Hid (∀ w' e p, Below w.heap.size w w' → Blk w' (w.heap.size + 1) 51 #[.int .i64 0, .int .i64 0] → (Instr.storeAt 51 (.pointer (some ⟨w.heap.size + 1, 0, none⟩)) (.agg #[.int .i64 e, .int .i64 p])).run Try.prog w' = .ok () (w'.setRow (w.heap.size + 1) #[.int .i64 e, .int .i64 p]) ∧ Blk (w'.setRow (w.heap.size + 1) #[.int .i64 e, .int .i64 p]) (w.heap.size + 1) 51 #[.int .i64 e, .int .i64 p] ∧ Below w.heap.size w (w'.setRow (w.heap.size + 1) #[.int .i64 e, .int .i64 p])) := fun w' e p hb' bV' =>
    ⟨run_store_all bV' vd_info rfl (vd_one _ _), bV'.setRow _, below_row hb' (by omega) _⟩
  -- behind the loop: a verdict
  have HCL : Hid (∀ wr, Wi (SA own a) w3 wr → Below w.heap.size w wr ∧ Blk wr (w.heap.size + 1) 51 #[.int .i64 0, .int .i64 0] ∧ Rd wr w.heap.size .u8 A L ∧ w.heap.size + 2 ≤ wr.heap.size) := fun wr hw => by
    have hb2 : Below (w.heap.size + 2) w3 wr := hw.below HSA.out HSZ.out
    exact ⟨HB.out.trans (hb2.mono (by omega)), HBV.out.below hb2 (by omega), HRD.out.below (hb2.mono (by omega)), by have := hw.size; have := HSZ.out; omega⟩
  clear hSA bV hb hsz hrd hA ha ho hb3 HX HN HZ
  go_wp2_with fail
  go_loopw [20] (fun i wr => ∃ (k : Nat) (sq : AQ) (x : AC), (k : Int) ≤ N ∧ i = .int .i64 k ∧ Aut wr own a f D K sq.st x ∧ AM sq x ∧ AOk D K sq ∧ x.handed = k ∧ x.S = S ∧ svrd D K S.toNat 0 aq0 L = svrd D K S.toNat k sq (L.drop k) ∧ Wi (SA own a) w3 wr) (fun i _ => L.length - (intOf i).toNat)
  case atStart => exact ⟨0, aq0, _, by have := HN2.out; omega, rfl, HA.out, am_zero D K S s, AOk.zero D K, rfl, rfl, rfl, Wi.refl⟩
  case round =>
    obtain ⟨k, sq, x, hk, rfl, hAu, hM, hO, hh, hS, hv, hW⟩ := hrel
    obtain ⟨cB, cV, cR, cZ⟩ := HCL.out wr hW
    by_cases hlt : (k : Int) < N
    · have hltn : k < L.length := by have := HN2.out; omega
      obtain ⟨b, o, rfl, hbb, hcell⟩ := cR.get hltn
      have hc := HBL.out (L.getD k 0) (by rw [List.getD_eq_getElem?_getD, List.getElem?_eq_getElem hltn]; exact List.getElem_mem hltn)
      have hdr : L.drop k = L.getD k 0 :: L.drop (k + 1) := by
        rw [List.drop_eq_getElem_cons hltn]
        simp [List.getD_eq_getElem?_getD, hltn]
      generalize L.getD k 0 = c at *
      rw [hdr] at hv
      have hk0 : (0 : Int) ≤ k := by omega
      have hkm : (k : Int) < 4611686018427387904 := by have := HLen.out; omega
      by_cases hst : stepK x.S k (fstep D K k sq c) = 0
      · have HT : Hid (Calls Try.prog 11 #[.pointer (some ⟨a, 0, none⟩), .int .u8 c, .nilFunc] wr fun e w' => e = .returned (.int .i64 0) ∧ (∃ sq' x', Aut w' own a f D K sq'.st x' ∧ AM sq' x' ∧ AOk D K sq' ∧ x'.handed = ((k + 1 : Nat) : Int) ∧ x'.S = S ∧ svrd D K S.toNat 0 aq0 L = svrd D K S.toNat (k + 1) sq' (L.drop (k + 1))) ∧ Wi (SA own a) w3 w') := by
          refine (auto_Step0 wr own a f D K k sq x c hAu hO hM hc.1 hc.2 hh hkm hst).mono ?_
          rintro e w' ⟨⟨rfl, s', x', hn, hA', hM', hh', hS'⟩, hw⟩
          refine ⟨rfl, ⟨s', x', hA', hM', aok_next hO hc.1 hc.2 hst hn, by rw [hh']; omega, hS'.trans hS, ?_⟩, hW.trans hw⟩
          rw [hv]
          exact svrd_ok HS0.out (hS ▸ hst) hn
        have hNL := HN2.out
        clear hAu hM hO hh hS hv hW cB cV cR cZ hdr hc hst HA HCL HRES HSA HBV HB HSZ HRD
        go_wp2_with fail
        refine HT.out.mono ?_
        rintro e w5 ⟨rfl, hx, hw5⟩
        have HXX := Lib.hid hx
        have HWW := Lib.hid hw5
        clear hx hw5 HT
        go_wp2_with fail
        go_roundw
        case rel =>
          obtain ⟨sq', x', y1, y2, y3, y4, y5, y6⟩ := HXX.out
          exact ⟨k + 1, sq', x', by omega, by go_num, y1, y2, y3, y4, y5, y6, HWW.out⟩
        case measure => simp [intOf]; omega
      · have HT : Hid (Calls Try.prog 11 #[.pointer (some ⟨a, 0, none⟩), .int .u8 c, .nilFunc] wr fun e w' => ∃ k', e = .returned (.int .i64 k') ∧ k' ≠ 0 ∧ (∃ x' : AC, Blk w' a 73 x'.cells ∧ x'.handed = (k : Int) + 1 ∧ x'.wrong = k' ∧ wv D K S L = (k', (k : Int))) ∧ Wi (SA own a) w3 w') := by
          refine (auto_Step_err wr own a f D K k sq x c .nilFunc hAu hO hM hc.1 hc.2 hh hkm hst).mono ?_
          rintro e w' ⟨⟨rfl, x', hA', hh', hw'⟩, hw⟩
          refine ⟨_, rfl, hst, ⟨x', hA'.blk, hh', hw', ?_⟩, hW.trans hw⟩
          unfold wv
          rw [hv, svrd_err HS0.out (hS ▸ hst), hS]
        have hNL := HN2.out
        have HCL2 := Lib.hid HCL.out
        clear hAu hM hO hh hS hv hW cB cV cR cZ hdr hc hst HA HCL HSA HBV HB HSZ HRD
        go_wp2_with fail
        refine HT.out.mono ?_
        rintro e w5 ⟨k', rfl, hk', ⟨x', hx1, hx2, hx3, hx4⟩, hw5⟩
        obtain ⟨g1, g2, _, _⟩ := HCL2.out w5 hw5
        have HCo : Hid (Calls Try.prog 15 #[.pointer (some ⟨a, 0, none⟩)] w5 fun e w' => e = .returned (.agg #[.int .i64 k', .int .i64 k]) ∧ (Below w.heap.size w w' ∧ Blk w' (w.heap.size + 1) 51 #[.int .i64 0, .int .i64 0])) := by
          refine (auto_Close w5 a x' hx1 (by omega) (by omega)).mono ?_
          rintro e w' ⟨rfl, hb⟩
          refine ⟨?_, g1.trans (hb.mono g1.size), g2.on hb⟩
          unfold closeV
          rw [if_pos (by rw [hx3]; exact hk'), hx3, hx2]
          unfold vcells
          simp
        have HWV := Lib.hid hx4
        clear hx1 hx2 hx3 hx4 hw5 g1 g2 HT HCL2 hkm hk0 hNL hltn hk hlt
        generalize (k : Int) = kI at *
        go_wp2_with fail
        refine HCo.out.mono ?_
        rintro e w6 ⟨rfl, b6, v6⟩
        obtain ⟨r1, r2, r3⟩ := HRES.out w6 k' kI b6 v6
        have H1 := Lib.hid r1
        have H2 := Lib.hid r2
        have H3 := Lib.hid r3
        clear r1 r2 r3 b6 v6 HRES HCo
        go_wp2_with ((with_reducible refine is_store 51 rfl ?_); (with_reducible refine wpList_store_run rfl rfl H1.out ?_ ?_ ?_); (· rfl); (· rfl))
        refine bodyPost_ret (results_blk rfl _ rfl H2.out Try.underlying51 rfl vd_info) rfl ?_
        rw [HWV.out]
        exact ⟨rfl, H3.out⟩
    · have hkl : k = L.length := by have := HN2.out; omega
      have hdr : L.drop k = [] := by rw [hkl, List.drop_length]
      rw [hdr] at hv
      have HCo : Hid (∃ e0 p0 : Int, wv D K S L = (e0, p0) ∧ Calls Try.prog 15 #[.pointer (some ⟨a, 0, none⟩)] wr fun e w' => e = .returned (.agg #[.int .i64 e0, .int .i64 p0]) ∧ (Below w.heap.size w w' ∧ Blk w' (w.heap.size + 1) 51 #[.int .i64 0, .int .i64 0])) := by
        have hcl := auto_Close wr a x hAu.blk (by omega) (by have := HLen.out; omega)
        have hwv : wv D K S L = closeV x := by
          unfold wv closeV
          rw [hv, if_neg (by rw [hM.wrong]; simp)]
          unfold svrd
          have hc := hM.ctl
          obtain ⟨st, ct⟩ := sq
          unfold AQ.isFin
          cases ct with
          | head q => obtain ⟨_, cd, _⟩ := hc; rw [cd]; simp [hh]
          | text n t u => obtain ⟨_, cd, _⟩ := hc; rw [cd]; simp [hh]
          | ended => exact absurd hc (fun h => h)
          | fin => obtain ⟨cd, _⟩ := hc; rw [cd]; simp
        refine ⟨(closeV x).1, (closeV x).2, hwv, hcl.mono ?_⟩
        rintro e w' ⟨rfl, hb⟩
        exact ⟨rfl, cB.trans (hb.mono cB.size), cV.on hb⟩
      obtain ⟨e0, p0, hwv, hcl⟩ := HCo.out
      have HWV := Lib.hid hwv
      have HC2 := Lib.hid hcl
      clear hAu hM hO hh hS hv hW cB cV cR cZ hdr hkl HCo hwv hcl HA HCL HSA HBV HB HSZ HRD
      go_wp2_with fail
      refine HC2.out.mono ?_
      rintro e w6 ⟨rfl, b6, v6⟩
      obtain ⟨r1, r2, r3⟩ := HRES.out w6 e0 p0 b6 v6
      have H1 := Lib.hid r1
      have H2 := Lib.hid r2
      have H3 := Lib.hid r3
      clear r1 r2 r3 b6 v6 HRES HC2
      go_wp2_with ((with_reducible refine is_store 51 rfl ?_); (with_reducible refine wpList_store_run rfl rfl H1.out ?_ ?_ ?_); (· rfl); (· rfl))
      refine bodyPost_ret (results_blk rfl _ rfl H2.out Try.underlying51 rfl vd_info) rfl ?_
      rw [HWV.out]
      exact ⟨rfl, H3.out⟩
end Go.Proofs.Ytchhbcmkhbfpoaa

/- Layer 14's law: the document's examples. -/
namespace Go.Proofs.Ytchhbcmkhbfpoaa
open Go.RowKit

theorem wv_a : wv 4 9 99 [130, 1] = (9, 2) := by
  simp [wv, svrd, fstep, bstep, aq0, begins, hq0, hnotes, hmid, hbegin, hbeg, herr, hdone, hstep, HQ.more, hshort, leastW, enter, AQ.isEnded, AQ.isFin, settle, Fr.feeds, Fr.full, Fr.waits, Fr.less]
theorem wv_b : wv 4 9 99 [24, 23] = (5, 1) := by
  simp [wv, svrd, fstep, bstep, aq0, begins, hq0, hnotes, hmid, hbegin, hbeg, herr, hdone, hstep, HQ.more, hshort, leastW, hwid, enter, AQ.isEnded, settle, hfollow]
theorem wv_c : wv 4 9 99 [1] = (0, 0) := by
  simp [wv, svrd, fstep, bstep, aq0, begins, hq0, hnotes, hmid, hbegin, hbeg, herr, hdone, hstep, HQ.more, hshort, leastW, enter, AQ.isEnded, AQ.isFin, settle]
theorem whole_a (w : World) (A : Option Addr) (hr : Rd w w.heap.size .u8 A [130, 1]) : Calls Try.prog 21 #[.slice A 2 2, .agg #[.int .i64 4, .int .i64 9, .int .i64 99]] w fun e w' => e = .returned (.agg #[.int .i64 9, .int .i64 2]) ∧ Below w.heap.size w w' := by
  have := auto_Whole w A 2 [130, 1] 4 9 99 hr (by unfold ByteL; decide) (by decide) (by decide) (by decide) (by decide) (by decide) (by decide) (by decide)
  rw [wv_a] at this
  exact this
theorem whole_b (w : World) (A : Option Addr) (hr : Rd w w.heap.size .u8 A [24, 23]) : Calls Try.prog 21 #[.slice A 2 2, .agg #[.int .i64 4, .int .i64 9, .int .i64 99]] w fun e w' => e = .returned (.agg #[.int .i64 5, .int .i64 1]) ∧ Below w.heap.size w w' := by
  have := auto_Whole w A 2 [24, 23] 4 9 99 hr (by unfold ByteL; decide) (by decide) (by decide) (by decide) (by decide) (by decide) (by decide) (by decide)
  rw [wv_b] at this
  exact this
theorem whole_c (w : World) (A : Option Addr) (hr : Rd w w.heap.size .u8 A [1]) : Calls Try.prog 21 #[.slice A 1 1, .agg #[.int .i64 4, .int .i64 9, .int .i64 99]] w fun e w' => e = .returned (.agg #[.int .i64 0, .int .i64 0]) ∧ Below w.heap.size w w' := by
  have := auto_Whole w A 1 [1] 4 9 99 hr (by unfold ByteL; decide) (by decide) (by decide) (by decide) (by decide) (by decide) (by decide) (by decide)
  rw [wv_c] at this
  exact this
theorem rd_lit (v : World) (g : Nat) (hg : g = v.heap.size) (l : List Int) : Rd (v.alloc (.cells (nums .u8 l) 5)) (v.alloc (.cells (nums .u8 l) 5)).heap.size .u8 (some ⟨g, 0, none⟩) l := (Blk.freshAt _ _ _ _ hg : Blk _ g 5 (nums .u8 l)).rd
set_option maxRecDepth 100000 in
theorem auto_awake (w : World) : Calls Try.prog 5 #[] w fun e w' => e = .returned (.bool true) ∧ Below w.heap.size w w' := by
  obtain ⟨w1, hw1, b1, S1⟩ := iblk1 w 24 #[.int .i64 4, .int .i64 9, .int .i64 99]
  have hsz : w1.heap.size = w.heap.size + 1 := by rw [← hw1]; simp
  have HW : Hid (∀ v, Below w1.heap.size w1 v → v.cell? ⟨w.heap.size, 0, none⟩ = some (.int .i64 4) ∧ v.cell? ⟨w.heap.size, 1, none⟩ = some (.int .i64 9) ∧ v.cell? ⟨w.heap.size, 2, none⟩ = some (.int .i64 99)) := fun v hb => lblk (b1.on hb)
  have H1 : Hid (Calls Try.prog 21 #[.slice (some ⟨w.heap.size + 1, 0, none⟩) 2 2, .agg #[.int .i64 4, .int .i64 9, .int .i64 99]] (w1.alloc (.cells #[.int .u8 130, .int .u8 1] 5)) fun e w' => e = .returned (.agg #[.int .i64 9, .int .i64 2]) ∧ Below w1.heap.size w1 w') :=
    (whole_a _ _ (rd_lit w1 (w.heap.size + 1) hsz.symm [130, 1])).mono fun _ _ h => ⟨h.1, (below_alloc w1 _).trans (h.2.mono (by simp))⟩
  have H2 : Hid (∀ v, Below w1.heap.size w1 v → Calls Try.prog 21 #[.slice (some ⟨v.heap.size, 0, none⟩) 2 2, .agg #[.int .i64 4, .int .i64 9, .int .i64 99]] (v.alloc (.cells #[.int .u8 24, .int .u8 23] 5)) fun e w' => e = .returned (.agg #[.int .i64 5, .int .i64 1]) ∧ Below w1.heap.size w1 w') := fun v hb =>
    (whole_b _ _ (rd_lit v v.heap.size rfl [24, 23])).mono fun _ _ h => ⟨h.1, (hb.trans ((below_alloc v _).mono hb.size)).trans (h.2.mono (by have := hb.size; simp; omega))⟩
  have H3 : Hid (∀ v, Below w1.heap.size w1 v → Calls Try.prog 21 #[.slice (some ⟨v.heap.size, 0, none⟩) 1 1, .agg #[.int .i64 4, .int .i64 9, .int .i64 99]] (v.alloc (.cells #[.int .u8 1] 5)) fun e w' => e = .returned (.agg #[.int .i64 0, .int .i64 0]) ∧ Below w1.heap.size w1 w') := fun v hb =>
    (whole_c _ _ (rd_lit v v.heap.size rfl [1])).mono fun _ _ h => ⟨h.1, (hb.trans ((below_alloc v _).mono hb.size)).trans (h.2.mono (by have := hb.size; simp; omega))⟩
  obtain ⟨p0, p1, p2⟩ := lblk b1
  have HS := Lib.hid S1
  clear b1 S1
  go_enter Try.func5, Try.ntmps5
  go_wp2_with fail
  refine H1.out.mono ?_
  rintro e w2 ⟨rfl, b2⟩
  obtain ⟨q0, q1, q2⟩ := HW.out (w2.alloc (.cells #[.int .u8 24, .int .u8 23] 5)) (b2.trans ((below_alloc w2 _).mono b2.size))
  have HC2 := Lib.hid (H2.out w2 b2)
  clear b2 H1 H2 p0 p1 p2
  go_wp2_with fail
  refine HC2.out.mono ?_
  rintro e w3 ⟨rfl, b3⟩
  obtain ⟨r0, r1, r2⟩ := HW.out (w3.alloc (.cells #[.int .u8 1] 5)) (b3.trans ((below_alloc w3 _).mono b3.size))
  have HC3 := Lib.hid (H3.out w3 b3)
  clear b3 HC2 H3 q0 q1 q2
  go_wp2_with fail
  refine HC3.out.mono ?_
  rintro e w4 ⟨rfl, b4⟩
  have HF := Lib.hid (HS.out.trans (b4.mono HS.out.size))
  clear b4 HC3
  go_wp2_with fail
  go_ret
  exact ⟨rfl, HF.out⟩
end Go.Proofs.Ytchhbcmkhbfpoaa

/- Package auto: Whole by limits that are not right; a nil automaton. -/
namespace Go.Proofs.Ytchhbcmkhbfpoaa
open Go.RowKit

set_option maxRecDepth 4000 in
theorem auto_Whole_bad (w : World) (A : Option Addr) (cap n : Nat) (d k s : Int) (h : rightL d k s = false) :
    Calls Try.prog 21 #[.slice A n cap, vL d k s] w fun e w' => e = .returned (.agg (vcells (15, 0))) ∧ Below w.heap.size w w' := by
  obtain ⟨w1, hw1, b1, S1⟩ := iblk1 w 24 #[.int .i64 d, .int .i64 k, .int .i64 s]
  have hsz1 : w1.heap.size = w.heap.size + 1 := by rw [← hw1]; simp
  obtain ⟨w2, hw2, b2, S2⟩ := iblk1 w1 51 #[.int .i64 0, .int .i64 0]
  obtain ⟨p0, p1, p2⟩ := lblk (b1.on S2)
  have S12 : Below w.heap.size w w2 := S1.trans (S2.mono S1.size)
  have HN := Lib.hid (auto_New_bad w2 d k s h)
  have HZ := vd_zero
  have HX : Hid (∀ w3, Below w2.heap.size w2 w3 → (Instr.storeAt 51 (.pointer (some ⟨w1.heap.size, 0, none⟩)) (.agg #[.int .i64 15, .int .i64 0])).run Try.prog w3 = .ok () (w3.setRow w1.heap.size #[.int .i64 15, .int .i64 0]) ∧ Blk (w3.setRow w1.heap.size #[.int .i64 15, .int .i64 0]) w1.heap.size 51 #[.int .i64 15, .int .i64 0] ∧ Below w.heap.size w (w3.setRow w1.heap.size #[.int .i64 15, .int .i64 0])) := fun w3 hb =>
    ⟨run_store_all (b2.on hb) vd_info rfl (vd_one _ _), (b2.on hb).setRow _, below_row (S12.trans (hb.mono S12.size)) (by omega) _⟩
  unfold vL at HN ⊢
  unfold vcells at HZ ⊢
  dsimp only at HZ ⊢
  clear S1 S2 S12 b1 b2 h hsz1
  go_enter Try.func21, Try.ntmps21
  go_wp2_with fail
  refine HN.out.mono ?_
  rintro e w3 ⟨rfl, hb⟩
  obtain ⟨r1, r2, r3⟩ := HX.out w3 hb
  have H1 := Lib.hid r1
  have H2 := Lib.hid r2
  have H3 := Lib.hid r3
  clear r1 r2 r3 hb HX HN
  go_wp2_with ((with_reducible refine is_store 51 rfl ?_); (with_reducible refine wpList_store_run rfl rfl H1.out ?_ ?_ ?_); (· rfl); (· rfl))
  refine bodyPost_ret (results_blk rfl _ rfl H2.out Try.underlying51 rfl vd_info) rfl ?_
  exact ⟨rfl, H3.out⟩
/-- The verdict, whatever the limits. -/
noncomputable def wva (d k s : Int) (L : List Int) : Int × Int := if rightL d k s = true then wv d.toNat k.toNat s L else (15, 0)
theorem auto_WholeA (w : World) (A : Option Addr) (cap : Nat) (L : List Int) (d k s : Int) (hr : Rd w w.heap.size .u8 A L) (hb : ByteL L) (hlen : L.length ≤ 1000000000) :
    Calls Try.prog 21 #[.slice A L.length cap, .agg #[.int .i64 d, .int .i64 k, .int .i64 s]] w fun e w' => e = .returned (.agg #[.int .i64 (wva d k s L).1, .int .i64 (wva d k s L).2]) ∧ Below w.heap.size w w' := by
  unfold wva
  cases h : rightL d k s with
  | true =>
    rw [if_pos rfl]
    obtain ⟨h1, h2, h3, h4, h5, h6⟩ := rightL_true.1 h
    have := auto_Whole w A cap L d.toNat k.toNat s hr hb hlen (by omega) (by omega) (by omega) (by omega) h5 h6
    rw [Int.toNat_of_nonneg (by omega), Int.toNat_of_nonneg (by omega)] at this
    exact this
  | false =>
    rw [if_neg (by decide)]
    exact auto_Whole_bad w A cap L.length d k s h
theorem auto_Step_nil (w : World) (c : Int) (V : Value) : Calls Try.prog 11 #[.pointer none, .int .u8 c, V] w fun e w' => e = .returned (.int .i64 10) ∧ w' = w := by
  go_enter Try.func11, Try.ntmps11
  go_wp2_with fail
  go_ret
  exact ⟨rfl, rfl⟩
theorem auto_Done_nil (w : World) : Calls Try.prog 14 #[.pointer none] w fun e w' => e = .returned (.bool false) ∧ w' = w := by
  go_enter Try.func14, Try.ntmps14
  go_wp2_with fail
  go_ret
  exact ⟨rfl, rfl⟩
theorem auto_Len_nil (w : World) : Calls Try.prog 13 #[.pointer none] w fun e w' => e = .returned (.int .i64 0) ∧ w' = w := by
  go_enter Try.func13, Try.ntmps13
  go_wp2_with fail
  go_ret
  exact ⟨rfl, rfl⟩
theorem auto_Cap_nil (w : World) : Calls Try.prog 10 #[.pointer none] w fun e w' => e = .returned (.int .i64 0) ∧ w' = w := by
  go_enter Try.func10, Try.ntmps10
  go_wp2_with fail
  go_ret
  exact ⟨rfl, rfl⟩
theorem auto_Close_nil (w : World) : Calls Try.prog 15 #[.pointer none] w fun e w' => e = .returned (.agg #[.int .i64 10, .int .i64 0]) ∧ Below w.heap.size w w' := by
  have HZ := vd_zero
  have b : Blk (w.alloc (.cells #[.int .i64 0, .int .i64 0] 51)) w.heap.size 51 #[.int .i64 0, .int .i64 0] := Blk.fresh _ _ _
  have S := below_alloc w (.cells #[.int .i64 0, .int .i64 0] 51)
  have b2 := Lib.hid (b.setRow #[.int .i64 10, .int .i64 0])
  have S2 := Lib.hid (below_row S (Nat.le_refl _) #[.int .i64 10, .int .i64 0])
  have HSt := Lib.hid (run_store_all (P := Try.prog) (ty := 51) (c' := #[.int .i64 10, .int .i64 0]) b vd_info rfl (vd_one _ _))
  obtain ⟨w1, hw1⟩ : ∃ w1, w.alloc (.cells #[.int .i64 0, .int .i64 0] 51) = w1 := ⟨_, rfl⟩
  rw [hw1] at b2 S2 HSt
  unfold vcells at HZ
  dsimp only at HZ
  clear b S
  go_enter Try.func15, Try.ntmps15
  go_wp2_with ((with_reducible refine is_store 51 rfl ?_); (with_reducible refine wpList_store_run rfl rfl HSt.out ?_ ?_ ?_); (· rfl); (· rfl))
  refine bodyPost_ret (results_blk rfl _ rfl b2.out Try.underlying51 rfl vd_info) rfl ?_
  exact ⟨rfl, S2.out⟩
end Go.Proofs.Ytchhbcmkhbfpoaa

/- Limits among the arguments. -/
namespace Go.Proofs.Ytchhbcmkhbfpoaa
open Go.RowKit Go.Sort Go.ChangeShapes Go.WideShapes Go.ChangeAt

section
variable {H : Type} {enc : TypeId × Value → H} {W : World}
set_option maxRecDepth 100000 in
/-- Limits among the arguments. -/
theorem open_limits {b0 : Nat} {v : Value} {d : DataW H} {ps : List MemPlace} (hval : Value.okWide Try.prog W .any b0 24 v) (hd : DataW.Trod enc Try.prog W 0 (fun _ => true) true 24 v d ps) :
    ∃ a b c, v = vL a b c := by
  obtain ⟨cs, rfl, _⟩ := okWide_struct Try.underlying24 hval
  obtain ⟨fuel, h⟩ := hd
  obtain ⟨xs, m, rfl, _, hl, hlen, hf⟩ := DataW.trod_struct Try.underlying24 h
  have hC : Try.prog.cellsOf 24 = 3 := by kernel_rfl
  rw [hC] at hl
  obtain ⟨c0, c1, c2, hc⟩ : ∃ c0 c1 c2, (Value.agg cs).cells.toList = [c0, c1, c2] := by
    match (Value.agg cs).cells.toList, hl with
    | [c0, c1, c2], _ => exact ⟨c0, c1, c2, rfl⟩
  obtain ⟨y0, y1, y2, rfl⟩ : ∃ y0 y1 y2, xs = [y0, y1, y2] := by
    match xs, hlen with
    | [y0, y1, y2], _ => exact ⟨y0, y1, y2, rfl⟩
  have g0 := hf 0 _ rfl
  have g1 := hf 1 _ rfl
  have g2 := hf 2 _ rfl
  have k0 : Try.prog.cellsOf 3 = 1 := by kernel_rfl
  rw [hc] at g0 g1 g2
  simp [k0] at g0 g1 g2
  obtain ⟨a, e0, _, _⟩ := DataW.trod_int Try.underlying3 g0
  obtain ⟨b, e1, _, _⟩ := DataW.trod_int Try.underlying3 g1
  obtain ⟨c, e2, _, _⟩ := DataW.trod_int Try.underlying3 g2
  injection e0 with e0
  injection e1 with e1
  injection e2 with e2
  subst e0 e1 e2
  refine ⟨a, b, c, ?_⟩
  unfold vL
  congr 1
  apply Array.ext'
  simpa [Value.cells] using hc
end
end Go.Proofs.Ytchhbcmkhbfpoaa

/- The frame of every law's proof: what is left is that the call returns true and turns nothing that was there. -/
namespace Go.Proofs.Ytchhbcmkhbfpoaa
open Go.ChangeShapes Go.WideShapes Go.ChangeAt Go.RowKit

section
variable {H : Type} {enc : TypeId × Value → H} {P : Program} {W W' : World}
/-- Arguments read as they did where below the heap's old size nothing has turned. -/
theorem args_stay (hl : laidOutB P = true) (hb : Below W.heap.size W W') : ∀ (ts : List TypeId) (vs : List Value) (ds : List (DataW H)) (ps : List MemPlace),
    (ts.all fun t => P.readableRec t && decide (t < P.types.size)) = true → (∀ p ∈ ps, p.block < W.heap.size) →
    DataW.TrodAll enc P W 0 (fun _ => true) true ts vs ds ps → DataW.TrodAll enc P W' 0 (fun b => decide (b < W.heap.size)) true ts vs ds ps
  | [], vs, ds, ps, _, _, h => by
    obtain ⟨rfl, rfl, rfl⟩ := trodAll_nil h
    exact trodAll_mk0
  | t :: ts, vs, ds, ps, ht, hp, h => by
    obtain ⟨v, vs', d, ds', p, q, rfl, rfl, rfl, hd, hr⟩ := trodAll_cons h
    simp only [List.all_cons, Bool.and_eq_true, decide_eq_true_eq] at ht
    have ha := Below.trod hl ht.1.1 ht.1.2 hd hb (fun x hx => hp x (List.mem_append_left _ hx))
    exact trodAll_cons_mk ha (args_stay hl hb ts vs' ds' q (by simpa using ht.2) (fun x hx => hp x (List.mem_append_right _ hx)) hr)

/-- What a law's row asks behind the call. -/
theorem law_post {f : Func} {s : ChangeSpec} {args : Array Value} {ds gs : List (DataW H)} {before : List MemPlace} {tb : TypeId}
    (hl : laidOutB P = true) (ht : (f.params.toList.all fun t => P.readableRec t && decide (t < P.types.size)) = true) (hv : s.vars = [])
    (hr : f.resultTypes = #[tb]) (hu : P.underlying tb = some .bool)
    (hres : (s.fn H (ds ++ gs)).results = [.lit (.bool true)]) (hargs : (s.fn H (ds ++ gs)).args = ds) (hvars : (s.fn H (ds ++ gs)).vars = [])
    (hW : DataW.Whole enc P f.params.toList s.vars false W args.toList ds gs before) (hb : Below W.heap.size W W') :
    s.post enc P f false true false false W args (.bool true) W' := by
  have hlt := hW.lt
  have hW' := hW
  obtain ⟨p, q, hA, hV, hpq, _, _⟩ := hW
  rw [hv] at hV
  obtain ⟨rfl, rfl⟩ := trodVars_none hV
  rw [List.append_nil] at hpq
  subst hpq
  refine ⟨ds, [], before, [], before, [], hW', ?_, ?_, ?_, World.keptBut_mono (fun x hx => ⟨hx, Or.inr (Or.inl hx)⟩) (hb.frame (· ∈ before)), fun h => by cases h⟩
  · rw [hres, hr]
    exact trodAll_mk1 (shut_bool hu true)
  · rw [hargs]
    exact args_stay hl hb _ _ _ _ ht hlt hA
  · rw [hv, hvars]
    rfl

/-- A slice of integers that came in. -/
theorem open_nums {t e : TypeId} {k : IntKind} {b0 : Nat} {v : Value} {d : DataW H} {ps : List MemPlace} (ht : P.underlying t = some (.slice e)) (he : P.underlying e = some (.int k)) (hc : P.cellsOf e = 1)
    (hval : Value.okWide P W .any b0 t v) (hd : DataW.Trod enc P W 0 (fun _ => true) true t v d ps) (hlt : ∀ x ∈ ps, x.block < W.heap.size) :
    ∃ (A : Option Addr) (cap : Nat) (zs : List Int), v = .slice A zs.length cap ∧ zs.length ≤ 9223372036854775807 ∧ Rd W W.heap.size k A zs ∧ ∀ n ∈ zs, (Lit.int k n).wf = true := by
  obtain ⟨a0, len, cap, rfl⟩ := okWide_slice ht hval
  obtain ⟨fuel, hf⟩ := hd
  rcases open_ints ht he hc hf with ⟨hcs, hx⟩ | ⟨a, len', cap', zs, hcs, _, hl, hm, hz, hx, hcell, hwz⟩
  · simp [Value.cells] at hcs
    obtain ⟨rfl, rfl, rfl⟩ := hcs
    exact ⟨none, 0, [], rfl, by decide, fun h => absurd h (by simp), by simp⟩
  · simp [Value.cells] at hcs
    obtain ⟨rfl, rfl, rfl⟩ := hcs
    simp only [Prod.mk.injEq] at hx
    obtain ⟨rfl, rfl⟩ := hx
    simp only [if_true] at hz
    unfold maxLen at hm
    have hlen : (zs.take len).length = len := by rw [List.length_take]; omega
    refine ⟨some a, cap, zs.take len, by rw [hlen], by rw [hlen]; omega, fun hpos => ?_, fun n hn => hwz n (List.mem_of_mem_take hn)⟩
    rw [hlen] at hpos
    have h0 := hcell 0 (by omega)
    obtain ⟨b, off, spot⟩ := a
    have hspot : spot = none := by simpa [Addr.add] using World.cell?_spot h0
    subst hspot
    refine ⟨b, off, rfl, ?_, fun i hi => ?_⟩
    · have := hlt (.cell b off) (MemPlace.mem_row.2 ⟨0, by omega, by simp⟩)
      exact this
    · rw [hlen] at hi
      rw [← add_plain, hcell i (by omega)]
      congr 2
      simp [List.getD_eq_getElem?_getD, hi]
/-- A slice of integers that came in; its capacity too. -/
theorem open_nums' {t e : TypeId} {k : IntKind} {b0 : Nat} {v : Value} {d : DataW H} {ps : List MemPlace} (ht : P.underlying t = some (.slice e)) (he : P.underlying e = some (.int k)) (hc : P.cellsOf e = 1)
    (hval : Value.okWide P W .any b0 t v) (hd : DataW.Trod enc P W 0 (fun _ => true) true t v d ps) (hlt : ∀ x ∈ ps, x.block < W.heap.size) :
    ∃ (A : Option Addr) (cap : Nat) (zs : List Int), v = .slice A zs.length cap ∧ zs.length ≤ 9223372036854775807 ∧ zs.length ≤ cap ∧ (A = none → cap = 0) ∧ Rd W W.heap.size k A zs ∧ ∀ n ∈ zs, (Lit.int k n).wf = true := by
  obtain ⟨a0, len, cap, rfl⟩ := okWide_slice ht hval
  obtain ⟨fuel, hf⟩ := hd
  rcases open_ints ht he hc hf with ⟨hcs, hx⟩ | ⟨a, len', cap', zs, hcs, _, hl, hm, hz, hx, hcell, hwz⟩
  · simp [Value.cells] at hcs
    obtain ⟨rfl, rfl, rfl⟩ := hcs
    exact ⟨none, 0, [], rfl, by decide, by decide, fun _ => rfl, fun h => absurd h (by simp), by simp⟩
  · simp [Value.cells] at hcs
    obtain ⟨rfl, rfl, rfl⟩ := hcs
    simp only [Prod.mk.injEq] at hx
    obtain ⟨rfl, rfl⟩ := hx
    simp only [if_true] at hz
    unfold maxLen at hm
    have hlen : (zs.take len).length = len := by rw [List.length_take]; omega
    refine ⟨some a, cap, zs.take len, by rw [hlen], by rw [hlen]; omega, by rw [hlen]; exact hl, fun h => (by cases h), fun hpos => ?_, fun n hn => hwz n (List.mem_of_mem_take hn)⟩
    rw [hlen] at hpos
    have h0 := hcell 0 (by omega)
    obtain ⟨b, off, spot⟩ := a
    have hspot : spot = none := by simpa [Addr.add] using World.cell?_spot h0
    subst hspot
    refine ⟨b, off, rfl, ?_, fun i hi => ?_⟩
    · have := hlt (.cell b off) (MemPlace.mem_row.2 ⟨0, by omega, by simp⟩)
      exact this
    · rw [hlen] at hi
      rw [← add_plain, hcell i (by omega)]
      congr 2
      simp [List.getD_eq_getElem?_getD, hi]
end
end Go.Proofs.Ytchhbcmkhbfpoaa
