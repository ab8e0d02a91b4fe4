/- The document's example of layer 18: plain. -/
import Derived.Test.YtjelgoeamaejmaaGreatKXAN
import Derived.Test.YtjelgoeamaejmaaGreatKXAO
namespace Go.Proofs.YtjelgoeamaejmaaGreat
open Go.RowKit

def fa18 : Fl := ⟨⟨#[97]⟩, 1, false⟩
def fb18 : Fl := ⟨⟨#[98]⟩, 1, true⟩
def fs18 : List Fl := [fa18, fb18]
def aw18 : List Nd := [⟨8, 0, 0, zIt, [], fs18⟩, ⟨1, 0, 5, zIt, [], []⟩]
def keyI (key : ByteArray) : It := .mk 3 0 key []
def oneI : It := .mk 0 1 ⟨#[]⟩ []
def mkI (key : ByteArray) : It := .mk 5 0 ⟨#[]⟩ [keyI key, oneI]
theorem aw18_ok : ∀ x ∈ aw18, okN x := by
  intro x hx
  simp only [aw18, List.mem_cons, List.not_mem_nil, or_false] at hx
  rcases hx with rfl | rfl
  · refine ⟨okI_z, fun y hy => ?_, by simp [fs18]⟩
    simp only [fs18, List.mem_cons, List.not_mem_nil, or_false] at hy
    rcases hy with rfl | rfl <;> decide
  · exact ⟨okI_z, (fun y hy => by cases hy), by simp⟩
theorem keys_fs18 : keysN fs18 = 0 := by
  refine firstE_all fun j hj => ?_
  have hj2 : j < 2 := hj
  match j, hj2 with
  | 0, _ =>
    rw [keyE_some (x := fa18) rfl]
    rw [if_neg (by decide), if_neg (by decide), if_neg (by simp)]
  | 1, _ =>
    rw [keyE_some (x := fb18) rfl]
    rw [if_neg (by decide), if_neg (by decide), if_neg (by
      show ¬ (⟨#[98]⟩ : ByteArray) ∈ [(⟨#[97]⟩ : ByteArray)]
      simp)]
theorem wrong_not {ch : It → Int} {x : Nd} {i m : Int} (h1 : ¬ (x.k < 0 ∨ 10 < x.k)) (h2 : formN ch x = true) (h3 : rangedN x = true) (h4 : keysN x.f = 0) (h5 : nameE x i m = 0) : wrongN ch x i m = 0 := by
  unfold wrongN
  rw [if_neg h1, if_neg (by rw [h2]; decide), if_neg (by rw [h3]; decide), if_neg (fun e => e h4), h5]
theorem aw18_check : checkE chI aw18 = 0 := by
  refine (checkE_all (by decide) fun j hj => ?_).1
  have hj2 : j < 2 := hj
  match j, hj2 with
  | 0, _ =>
    rw [errN_some (x := ⟨8, 0, 0, zIt, [], fs18⟩) rfl]
    exact wrong_not (by decide) (by simp [formN, Nd.of, sameN]) (by simp [rangedN]) keys_fs18 (by simp [nameE, namedN, fs18, fa18, fb18, nameB, aw18])
  | 1, _ =>
    rw [errN_some (x := ⟨1, 0, 5, zIt, [], []⟩) rfl]
    exact wrong_not (by decide) (by simp [formN, Nd.of, sameN]) (by simp [rangedN]) rfl (by simp [nameE, namedN])
theorem mkI_items (key : ByteArray) (d : Nat) : (mkI key).items d = [(d, mkI key), (d + 1, keyI key), (d + 1, oneI)] := by
  simp [mkI, keyI, oneI, It.items, itemsL]
theorem mkI_count (key : ByteArray) : (mkI key).count = 3 := by simp [mkI, keyI, oneI, It.count, countL]
theorem mkI_ok (key : ByteArray) (hk : key.size ≤ 1048576) : okI 1048576 (mkI key) := by
  refine ⟨by rw [mkI_count]; decide, fun d p hp => ?_⟩
  rw [mkI_items] at hp
  simp only [List.mem_cons, List.not_mem_nil, or_false] at hp
  rcases hp with rfl | rfl | rfl
  · exact ⟨Int.le_refl _, by show (0 : Int) < _; omega, by show 0 ≤ _; omega⟩
  · exact ⟨Int.le_refl _, by show (0 : Int) < _; omega, hk⟩
  · exact ⟨by show (0 : Int) ≤ 1; omega, by show (1 : Int) < _; omega, by show 0 ≤ _; omega⟩
theorem mkI_check (key : ByteArray) (hu : uok uq0 (sbytes key) = true) : chI (mkI key) = 0 := by
  unfold chI checkR
  have hd : ¬ 64 < (mkI key).depth := by
    unfold It.depth
    rw [mkI_items]
    show ¬ 64 < mostOf [1, 1 + 1, 1 + 1]
    decide
  rw [if_neg hd, mkI_items]
  have h1 : wrongI (mkI key) = 0 := by
    unfold wrongI
    have ht : twiceB (mkI key).l = false := twiceB_false.2 (fun h => by
      rw [twice_nodup] at h
      exact h (by simp [mkI, It.l, evens]))
    rw [if_neg (by simp [formB, mkI, formK, It.k, It.n, It.s, It.l]), if_neg (by simp [rangB, mkI, It.k]), if_neg (by simp [mkI, It.k]), if_neg (by rw [ht]; simp)]
  have h2 : wrongI (keyI key) = 0 := by
    unfold wrongI
    rw [if_neg (by simp [formB, keyI, formK, It.k, It.n, It.l]), if_neg (by simp [rangB, keyI, It.k]), if_neg (by rw [show (keyI key).s = key from rfl, hu]; simp), if_neg (by simp [keyI, It.k])]
  have h3 : wrongI oneI = 0 := by
    unfold wrongI
    rw [if_neg (by simp [formB, oneI, formK, It.k, It.s, It.l]), if_neg (by simp [rangB, oneI, It.k]), if_neg (by simp [oneI, It.k]), if_neg (by simp [oneI, It.k])]
  simp [firstErr, h1, h2, h3]
/-- The parts of the example's item. -/
theorem parts18 {key : ByteArray} {ps : List Pt} (h : Sp (mkI key) ps.length ps) : ∃ p0 p1 p2, ps = [p0, p1, p2] ∧ p0.x = mkI key ∧ p1.x = keyI key ∧ p2.x = oneI ∧ p0.it = 1 := by
  have hc := h.cnt
  rw [List.drop_of_length_le (Nat.le_refl _), mkI_count] at hc
  have hl : ps.length = 3 := by simpa [cntP, countL] using hc
  match ps, hl with
  | [p0, p1, p2], _ =>
    have h0 : p0.x = mkI key := by
      have := h.first
      simpa using this
    obtain ⟨c, hc, hk⟩ := h.done 0 p0 (by show 0 < 3; decide) rfl
    rw [h0] at hk
    obtain ⟨q, hq, hqx⟩ := hk 0 (keyI key) (by show 0 < 2; decide) rfl
    obtain ⟨q', hq', hqx'⟩ := hk 1 oneI (by show 1 < 2; decide) rfl
    match c, hc, hq, hq' with
    | 0, hc, hq, hq' =>
      have : p0 = q := by simpa using hq
      subst this
      rw [h0] at hqx
      have := congrArg It.k hqx
      simp [mkI, keyI, It.k] at this
    | 1, hc, hq, hq' =>
      have e1 : p1 = q := by simpa using hq
      have e2 : p2 = q' := by simpa using hq'
      subst e1 e2
      exact ⟨p0, p1, p2, rfl, h0, hqx, hqx', hc⟩
    | 2, hc, hq, hq' => simp at hq'
    | c + 3, hc, hq, hq' => simp at hq
/-! ### The example's table -/
def itAt (ps : List Pt) (a : Nat) : Nat := match ps[a]? with
  | none => 0
  | some q => q.it.toNat
def xAt (ps : List Pt) (a : Nat) : It := ((ps[a]?).map (·.x)).getD zIt
noncomputable def R18 (ps : List Pt) (node a : Nat) : Bool := if node = 1 then loneR 1 0 5 (xAt ps a) else recR fs18 (fun _ b => loneR 1 0 5 (xAt ps b)) (xAt ps a) (itAt ps a)
theorem recStep_congr {fs : List Fl} {Rf Rg : Nat → Nat → Bool} (h : ∀ f ∈ fs, ∀ a, Rf f.node.toNat a = Rg f.node.toNat a) (l : List It) (c u : Nat) : recStep fs Rf l c u = recStep fs Rg l c u := by
  unfold recStep
  split
  · rfl
  · split
    · rfl
    · next f hf => rw [h f (fM_mem hf)]
theorem recAll_congr {f g : Nat → Bool} (h : ∀ u, f u = g u) : ∀ k, recAll f k = recAll g k
  | 0 => rfl
  | k + 1 => by unfold recAll; rw [recAll_congr h k, h]
theorem recR_congr {fs : List Fl} {Rf Rg : Nat → Nat → Bool} (h : ∀ f ∈ fs, ∀ a, Rf f.node.toNat a = Rg f.node.toNat a) (x : It) (c : Nat) : recR fs Rf x c = recR fs Rg x c := by
  unfold recR
  rw [recAll_congr (fun u => recStep_congr h x.l c u)]
theorem fs18_node : ∀ f ∈ fs18, f.node = 1 := by
  intro f hf
  simp only [fs18, List.mem_cons, List.not_mem_nil, or_false] at hf
  rcases hf with rfl | rfl <;> rfl
theorem fM18_a : fM fs18 ⟨#[97]⟩ = some fa18 := by
  have e : fs18 = ([] ++ [fa18]) ++ [fb18] := rfl
  rw [e, fM_snoc, if_neg (by show ¬ (⟨#[97]⟩ : ByteArray) = ⟨#[98]⟩; simp), fM_snoc]
  exact if_pos rfl
theorem fM18_b : fM fs18 ⟨#[98]⟩ = some fb18 := by
  have e : fs18 = ([] ++ [fa18]) ++ [fb18] := rfl
  rw [e, fM_snoc]
  exact if_pos rfl
theorem mkI_len (key : ByteArray) : (mkI key).l.length = 2 := by simp [mkI, It.l]
theorem rules18 (key : ByteArray) (hk : key.size ≤ 1048576) : RulesOk aw18 (mkI key) 0 R18 := by
  intro w0 n ps hn hsp hat node y p W B H cm g hy _ hnd _ _ hW
  obtain ⟨p0, p1, p2, hps, h0, h1, h2, hit⟩ := parts18 hsp
  have hall : ∀ q ∈ ps, q.x = mkI key ∨ q.x = keyI key ∨ q.x = oneI := by
    intro q hq
    rw [hps] at hq
    simp only [List.mem_cons, List.not_mem_nil, or_false] at hq
    rcases hq with rfl | rfl | rfl
    · exact .inl h0
    · exact .inr (.inl h1)
    · exact .inr (.inr h2)
  have hpl : ps.length ≤ 1000000000 := by rw [hps]; show 3 ≤ 1000000000; decide
  have hnode : node < 2 := (List.getElem?_eq_some_iff.1 hy).1
  match node, hnode with
  | 0, _ =>
    obtain rfl : (⟨8, 0, 0, zIt, [], fs18⟩ : Nd) = y := by injection hy
    refine rule_record p W B cm g (R18 ps) rfl hn hW hnd hsp hat (aw18_ok _ (by simp [aw18])) (by decide) (by decide) hpl ?_ ?_ ?_ ?_ ?_
    · intro f hf
      rw [fs18_node f hf]
      exact ⟨by decide, by decide⟩
    · intro q hq _
      rcases hall q hq with e | e | e <;> rw [e]
      · rw [mkI_len]
      · rw [show (keyI key).l.length = 0 from by simp [keyI, It.l]]
      · rw [show oneI.l.length = 0 from by simp [oneI, It.l]]
    · intro q hq z hz
      rcases hall q hq with e | e | e <;> rw [e] at hz
      · simp only [mkI, It.l, List.mem_cons, List.not_mem_nil, or_false] at hz
        rcases hz with rfl | rfl
        · exact hk
        · show 0 ≤ _; omega
      · simp [keyI, It.l] at hz
      · simp [oneI, It.l] at hz
    · intro q hq
      rcases hall q hq with e | e | e <;> rw [e]
      · rw [mkI_len]; decide
      · rw [show (keyI key).l.length = 0 from by simp [keyI, It.l]]; decide
      · rw [show oneI.l.length = 0 from by simp [oneI, It.l]]; decide
    · intro a q hq
      show R18 ps 0 a = _
      unfold R18
      rw [if_neg (by decide)]
      have e1 : xAt ps a = q.x := by unfold xAt; rw [hq]; rfl
      rw [e1, show itAt ps a = q.it.toNat by unfold itAt; rw [hq]]
      exact recR_congr (fun f hf b => by rw [fs18_node f hf]; rfl) _ _
  | 1, _ =>
    obtain rfl : (⟨1, 0, 5, zIt, [], []⟩ : Nd) = y := by injection hy
    refine rule_lone (xs := aw18) p W B cm g _ _ (R18 ps) (.inl rfl) ?_
    intro a q hq
    refine ⟨?_, ?_⟩
    · unfold R18
      rw [if_pos rfl]
      have e1 : xAt ps a = q.x := by unfold xAt; rw [hq]; rfl
      rw [e1]
    · rcases hall q (List.mem_of_getElem? hq) with e | e | e <;> rw [e]
      · show (0 : Int) ≤ (mkI key).n
        simp [mkI, It.n]
      · simp [keyI, It.n]
      · simp [oneI, It.n]
theorem val18 {key : ByteArray} {f : Fl} {ps : List Pt} (h : Sp (mkI key) ps.length ps) (hf : fM fs18 key = some f) : R18 ps 0 0 = !f.opt := by
  obtain ⟨p0, p1, p2, hps, h0, h1, h2, hit⟩ := parts18 h
  subst hps
  unfold R18
  rw [if_neg (by decide)]
  have e0 : xAt [p0, p1, p2] 0 = mkI key := h0
  have e2 : xAt [p0, p1, p2] 2 = oneI := h2
  have ei : itAt [p0, p1, p2] 0 = 1 := by
    show p0.it.toNat = 1
    rw [hit]
    rfl
  rw [e0, ei]
  unfold recR
  have hs : recStep fs18 (fun _ b => loneR 1 0 5 (xAt [p0, p1, p2] b)) (mkI key).l 1 0 = true := by
    have e : (mkI key).l[0]? = some (keyI key) := by simp [mkI, It.l]
    unfold recStep
    rw [e]
    dsimp only
    rw [show (keyI key).s = key by simp [keyI, It.s], hf, show (keyI key).k = 3 by simp [keyI, It.k]]
    show (decide ((3 : Int) = 3) && loneR 1 0 5 (xAt [p0, p1, p2] 2)) = true
    rw [e2]
    simp [loneR, numR, inR, oneI, It.k, It.n]
  have hr : recReq fs18 (mkI key).l 0 = if f.opt = true then 0 else 1 := by
    have e : (mkI key).l[0]? = some (keyI key) := by simp [mkI, It.l]
    unfold recReq
    rw [e]
    dsimp only
    rw [show (keyI key).s = key by simp [keyI, It.s], hf]
  rw [mkI_len, show (mkI key).k = 5 by simp [mkI, It.k]]
  show (decide ((5 : Int) = 5) && ((true && recStep fs18 _ (mkI key).l 1 0) && decide (0 + recReq fs18 (mkI key).l 0 = needF fs18))) = _
  rw [hs, hr]
  cases f.opt <;> decide
end Go.Proofs.YtjelgoeamaejmaaGreat
