/- The document's example of layer 18: plain. -/
import Derived.Test.YtjelgoeamaejmaaGreatKBL
namespace Go.Proofs.YtjelgoeamaejmaaGreat
open Go.RowKit

def fa18 : Fl := ⟨⟨#[97]⟩, 1, false⟩
def fb18 : Fl := ⟨⟨#[98]⟩, 1, true⟩
def fs18 : List Fl := [fa18, fb18]
def aw18 : List Nd := [⟨8, 0, 0, zIt, [], fs18⟩, ⟨1, 0, 5, zIt, [], []⟩]
def keyI (key : ByteArray) : It := .mk 3 0 key []
def oneI : It := .mk 0 1 ⟨#[]⟩ []
def mkI (key : ByteArray) : It := .mk 5 0 ⟨#[]⟩ [keyI key, oneI]
theorem aw18_ok : ∀ x ∈ aw18, okN x := by
  intro x hx
  simp only [aw18, List.mem_cons, List.not_mem_nil, or_false] at hx
  rcases hx with rfl | rfl
  · refine ⟨okI_z, fun y hy => ?_, by simp [fs18]⟩
    simp only [fs18, List.mem_cons, List.not_mem_nil, or_false] at hy
    rcases hy with rfl | rfl <;> decide
  · exact ⟨okI_z, (fun y hy => by cases hy), by simp⟩
theorem keys_fs18 : keysN fs18 = 0 := by
  refine firstE_all fun j hj => ?_
  have hj2 : j < 2 := hj
  match j, hj2 with
  | 0, _ =>
    rw [keyE_some (x := fa18) rfl]
    rw [if_neg (by decide), if_neg (by decide), if_neg (by simp)]
  | 1, _ =>
    rw [keyE_some (x := fb18) rfl]
    rw [if_neg (by decide), if_neg (by decide), if_neg (by
      show ¬ (⟨#[98]⟩ : ByteArray) ∈ [(⟨#[97]⟩ : ByteArray)]
      simp)]
theorem wrong_not {ch : It → Int} {x : Nd} {i m : Int} (h1 : ¬ (x.k < 0 ∨ 10 < x.k)) (h2 : formN ch x = true) (h3 : rangedN x = true) (h4 : keysN x.f = 0) (h5 : nameE x i m = 0) : wrongN ch x i m = 0 := by
  unfold wrongN
  rw [if_neg h1, if_neg (by rw [h2]; decide), if_neg (by rw [h3]; decide), if_neg (fun e => e h4), h5]
theorem aw18_check : checkE chI aw18 = 0 := by
  refine (checkE_all (by decide) fun j hj => ?_).1
  have hj2 : j < 2 := hj
  match j, hj2 with
  | 0, _ =>
    rw [errN_some (x := ⟨8, 0, 0, zIt, [], fs18⟩) rfl]
    exact wrong_not (by decide) (by simp [formN, Nd.of, sameN]) (by simp [rangedN]) keys_fs18 (by simp [nameE, namedN, fs18, fa18, fb18, nameB, aw18])
  | 1, _ =>
    rw [errN_some (x := ⟨1, 0, 5, zIt, [], []⟩) rfl]
    exact wrong_not (by decide) (by simp [formN, Nd.of, sameN]) (by simp [rangedN]) rfl (by simp [nameE, namedN])
theorem mkI_items (key : ByteArray) (d : Nat) : (mkI key).items d = [(d, mkI key), (d + 1, keyI key), (d + 1, oneI)] := by
  simp [mkI, keyI, oneI, It.items, itemsL]
theorem mkI_count (key : ByteArray) : (mkI key).count = 3 := by simp [mkI, keyI, oneI, It.count, countL]
theorem mkI_ok (key : ByteArray) (hk : key.size ≤ 1048576) : okI 1048576 (mkI key) := by
  refine ⟨by rw [mkI_count]; decide, fun d p hp => ?_⟩
  rw [mkI_items] at hp
  simp only [List.mem_cons, List.not_mem_nil, or_false] at hp
  rcases hp with rfl | rfl | rfl
  · exact ⟨Int.le_refl _, by show (0 : Int) < _; omega, by show 0 ≤ _; omega⟩
  · exact ⟨Int.le_refl _, by show (0 : Int) < _; omega, hk⟩
  · exact ⟨by show (0 : Int) ≤ 1; omega, by show (1 : Int) < _; omega, by show 0 ≤ _; omega⟩
theorem mkI_check (key : ByteArray) (hu : uok uq0 (sbytes key) = true) : chI (mkI key) = 0 := by
  unfold chI checkR
  have hd : ¬ 64 < (mkI key).depth := by
    unfold It.depth
    rw [mkI_items]
    show ¬ 64 < mostOf [1, 1 + 1, 1 + 1]
    decide
  rw [if_neg hd, mkI_items]
  have h1 : wrongI (mkI key) = 0 := by
    unfold wrongI
    have ht : twiceB (mkI key).l = false := twiceB_false.2 (fun h => by
      rw [twice_nodup] at h
      exact h (by simp [mkI, It.l, evens]))
    rw [if_neg (by simp [formB, mkI, formK, It.k, It.n, It.s, It.l]), if_neg (by simp [rangB, mkI, It.k]), if_neg (by simp [mkI, It.k]), if_neg (by rw [ht]; simp)]
  have h2 : wrongI (keyI key) = 0 := by
    unfold wrongI
    rw [if_neg (by simp [formB, keyI, formK, It.k, It.n, It.l]), if_neg (by simp [rangB, keyI, It.k]), if_neg (by rw [show (keyI key).s = key from rfl, hu]; simp), if_neg (by simp [keyI, It.k])]
  have h3 : wrongI oneI = 0 := by
    unfold wrongI
    rw [if_neg (by simp [formB, oneI, formK, It.k, It.s, It.l]), if_neg (by simp [rangB, oneI, It.k]), if_neg (by simp [oneI, It.k]), if_neg (by simp [oneI, It.k])]
  simp [firstErr, h1, h2, h3]
/-- The parts of the example's item. -/
theorem parts18 {key : ByteArray} {ps : List Pt} (h : Sp (mkI key) ps.length ps) : ∃ p0 p1 p2, ps = [p0, p1, p2] ∧ p0.x = mkI key ∧ p1.x = keyI key ∧ p2.x = oneI ∧ p0.it = 1 := by
  have hc := h.cnt
  rw [List.drop_of_length_le (Nat.le_refl _), mkI_count] at hc
  have hl : ps.length = 3 := by simpa [cntP, countL] using hc
  match ps, hl with
  | [p0, p1, p2], _ =>
    have h0 : p0.x = mkI key := by
      have := h.first
      simpa using this
    obtain ⟨c, hc, hk⟩ := h.done 0 p0 (by show 0 < 3; decide) rfl
    rw [h0] at hk
    obtain ⟨q, hq, hqx⟩ := hk 0 (keyI key) (by show 0 < 2; decide) rfl
    obtain ⟨q', hq', hqx'⟩ := hk 1 oneI (by show 1 < 2; decide) rfl
    match c, hc, hq, hq' with
    | 0, hc, hq, hq' =>
      have : p0 = q := by simpa using hq
      subst this
      rw [h0] at hqx
      have := congrArg It.k hqx
      simp [mkI, keyI, It.k] at this
    | 1, hc, hq, hq' =>
      have e1 : p1 = q := by simpa using hq
      have e2 : p2 = q' := by simpa using hq'
      subst e1 e2
      exact ⟨p0, p1, p2, rfl, h0, hqx, hqx', hc⟩
    | 2, hc, hq, hq' => simp at hq'
    | c + 3, hc, hq, hq' => simp at hq
/-! ### The example's table -/
def itAt (ps : List Pt) (a : Nat) : Nat := match ps[a]? with
  | none => 0
  | some q => q.it.toNat
def xAt (ps : List Pt) (a : Nat) : It := ((ps[a]?).map (·.x)).getD zIt
noncomputable def R18 (ps : List Pt) (node a : Nat) : Bool := if node = 1 then loneR 1 0 5 (xAt ps a) else recR fs18 (fun _ b => loneR 1 0 5 (xAt ps b)) (xAt ps a) (itAt ps a)
theorem recStep_congr {fs : List Fl} {Rf Rg : Nat → Nat → Bool} (h : ∀ f ∈ fs, ∀ a, Rf f.node.toNat a = Rg f.node.toNat a) (l : List It) (c u : Nat) : recStep fs Rf l c u = recStep fs Rg l c u := by
  unfold recStep
  split
  · rfl
  · split
    · rfl
    · next f hf => rw [h f (fM_mem hf)]
theorem recAll_congr {f g : Nat → Bool} (h : ∀ u, f u = g u) : ∀ k, recAll f k = recAll g k
  | 0 => rfl
  | k + 1 => by unfold recAll; rw [recAll_congr h k, h]
theorem recR_congr {fs : List Fl} {Rf Rg : Nat → Nat → Bool} (h : ∀ f ∈ fs, ∀ a, Rf f.node.toNat a = Rg f.node.toNat a) (x : It) (c : Nat) : recR fs Rf x c = recR fs Rg x c := by
  unfold recR
  rw [recAll_congr (fun u => recStep_congr h x.l c u)]
theorem fs18_node : ∀ f ∈ fs18, f.node = 1 := by
  intro f hf
  simp only [fs18, List.mem_cons, List.not_mem_nil, or_false] at hf
  rcases hf with rfl | rfl <;> rfl
theorem fM18_a : fM fs18 ⟨#[97]⟩ = some fa18 := by
  have e : fs18 = ([] ++ [fa18]) ++ [fb18] := rfl
  rw [e, fM_snoc, if_neg (by show ¬ (⟨#[97]⟩ : ByteArray) = ⟨#[98]⟩; simp), fM_snoc]
  exact if_pos rfl
theorem fM18_b : fM fs18 ⟨#[98]⟩ = some fb18 := by
  have e : fs18 = ([] ++ [fa18]) ++ [fb18] := rfl
  rw [e, fM_snoc]
  exact if_pos rfl
theorem mkI_len (key : ByteArray) : (mkI key).l.length = 2 := by simp [mkI, It.l]
theorem rules18 (key : ByteArray) (hk : key.size ≤ 1048576) : RulesOk aw18 (mkI key) 0 R18 := by
  intro w0 n ps hn hsp hat node y p W B H cm g hy _ hnd _ _ hW
  obtain ⟨p0, p1, p2, hps, h0, h1, h2, hit⟩ := parts18 hsp
  have hall : ∀ q ∈ ps, q.x = mkI key ∨ q.x = keyI key ∨ q.x = oneI := by
    intro q hq
    rw [hps] at hq
    simp only [List.mem_cons, List.not_mem_nil, or_false] at hq
    rcases hq with rfl | rfl | rfl
    · exact .inl h0
    · exact .inr (.inl h1)
    · exact .inr (.inr h2)
  have hpl : ps.length ≤ 1000000000 := by rw [hps]; show 3 ≤ 1000000000; decide
  have hnode : node < 2 := (List.getElem?_eq_some_iff.1 hy).1
  match node, hnode with
  | 0, _ =>
    obtain rfl : (⟨8, 0, 0, zIt, [], fs18⟩ : Nd) = y := by injection hy
    refine rule_record p W B cm g (R18 ps) rfl hn hW hnd hsp hat (aw18_ok _ (by simp [aw18])) (by decide) (by decide) hpl ?_ ?_ ?_ ?_ ?_
    · intro f hf
      rw [fs18_node f hf]
      exact ⟨by decide, by decide⟩
    · intro q hq _
      rcases hall q hq with e | e | e <;> rw [e]
      · rw [mkI_len]
      · rw [show (keyI key).l.length = 0 from by simp [keyI, It.l]]
      · rw [show oneI.l.length = 0 from by simp [oneI, It.l]]
    · intro q hq z hz
      rcases hall q hq with e | e | e <;> rw [e] at hz
      · simp only [mkI, It.l, List.mem_cons, List.not_mem_nil, or_false] at hz
        rcases hz with rfl | rfl
        · exact hk
        · show 0 ≤ _; omega
      · simp [keyI, It.l] at hz
      · simp [oneI, It.l] at hz
    · intro q hq
      rcases hall q hq with e | e | e <;> rw [e]
      · rw [mkI_len]; decide
      · rw [show (keyI key).l.length = 0 from by simp [keyI, It.l]]; decide
      · rw [show oneI.l.length = 0 from by simp [oneI, It.l]]; decide
    · intro a q hq
      show R18 ps 0 a = _
      unfold R18
      rw [if_neg (by decide)]
      have e1 : xAt ps a = q.x := by unfold xAt; rw [hq]; rfl
      rw [e1, show itAt ps a = q.it.toNat by unfold itAt; rw [hq]]
      exact recR_congr (fun f hf b => by rw [fs18_node f hf]; rfl) _ _
  | 1, _ =>
    obtain rfl : (⟨1, 0, 5, zIt, [], []⟩ : Nd) = y := by injection hy
    refine rule_lone (xs := aw18) p W B cm g _ _ (R18 ps) (.inl rfl) ?_
    intro a q hq
    refine ⟨?_, ?_⟩
    · unfold R18
      rw [if_pos rfl]
      have e1 : xAt ps a = q.x := by unfold xAt; rw [hq]; rfl
      rw [e1]
    · rcases hall q (List.mem_of_getElem? hq) with e | e | e <;> rw [e]
      · show (0 : Int) ≤ (mkI key).n
        simp [mkI, It.n]
      · simp [keyI, It.n]
      · simp [oneI, It.n]
theorem val18 {key : ByteArray} {f : Fl} {ps : List Pt} (h : Sp (mkI key) ps.length ps) (hf : fM fs18 key = some f) : R18 ps 0 0 = !f.opt := by
  obtain ⟨p0, p1, p2, hps, h0, h1, h2, hit⟩ := parts18 h
  subst hps
  unfold R18
  rw [if_neg (by decide)]
  have e0 : xAt [p0, p1, p2] 0 = mkI key := h0
  have e2 : xAt [p0, p1, p2] 2 = oneI := h2
  have ei : itAt [p0, p1, p2] 0 = 1 := by
    show p0.it.toNat = 1
    rw [hit]
    rfl
  rw [e0, ei]
  unfold recR
  have hs : recStep fs18 (fun _ b => loneR 1 0 5 (xAt [p0, p1, p2] b)) (mkI key).l 1 0 = true := by
    have e : (mkI key).l[0]? = some (keyI key) := by simp [mkI, It.l]
    unfold recStep
    rw [e]
    dsimp only
    rw [show (keyI key).s = key by simp [keyI, It.s], hf, show (keyI key).k = 3 by simp [keyI, It.k]]
    show (decide ((3 : Int) = 3) && loneR 1 0 5 (xAt [p0, p1, p2] 2)) = true
    rw [e2]
    simp [loneR, numR, inR, oneI, It.k, It.n]
  have hr : recReq fs18 (mkI key).l 0 = if f.opt = true then 0 else 1 := by
    have e : (mkI key).l[0]? = some (keyI key) := by simp [mkI, It.l]
    unfold recReq
    rw [e]
    dsimp only
    rw [show (keyI key).s = key by simp [keyI, It.s], hf]
  rw [mkI_len, show (mkI key).k = 5 by simp [mkI, It.k]]
  show (decide ((5 : Int) = 5) && ((true && recStep fs18 _ (mkI key).l 1 0) && decide (0 + recReq fs18 (mkI key).l 0 = needF fs18))) = _
  rw [hs, hr]
  cases f.opt <;> decide
end Go.Proofs.YtjelgoeamaejmaaGreat

/- The document's example of layer 18, as the laws run it. -/
namespace Go.Proofs.YtjelgoeamaejmaaGreat
open Go.RowKit

def mk8 (key : ByteArray) : Array Value := #[.int .i64 3, .int .u64 0, .string key, .slice none 0 0, .int .i64 0, .int .u64 1, .string ⟨#[]⟩, .slice none 0 0]
theorem mk_at {w : World} {b : Nat} (key : ByteArray) (h : Blk w b 28 (mk8 key)) : AtB w w.heap.size (mkI key) (some ⟨b, 0, none⟩) 2 := by
  have hc : ∀ i, w.cell? ⟨b, i, none⟩ = (mk8 key)[i]? := h.cell
  refine ⟨by rw [mkI_len]; exact Nat.le_refl _, (fun e => by cases e), ?_⟩
  have hl : (mkI key).l = [keyI key, oneI] := by simp [mkI, It.l]
  rw [hl]
  refine AtL.mk h.lt h.lt (At1.mk none 0 ?_ ?_ ?_ ?_ ?_ (fun _ => rfl) ?_) (AtL.mk h.lt h.lt (At1.mk none 0 ?_ ?_ ?_ ?_ ?_ (fun _ => rfl) ?_) (AtL.nil _))
  · rw [hc]; simp [keyI, It.k, mk8]
  · rw [hc]; simp [keyI, It.n, mk8]
  · rw [hc]; simp [keyI, It.s, mk8]
  · rw [hc]; simp [keyI, It.l, mk8]
  · simp [keyI, It.l]
  · simp only [keyI, It.l]; exact AtL.nil _
  · rw [hc]; simp [oneI, It.k, mk8]
  · rw [hc]; simp [oneI, It.n, mk8]
  · rw [hc]; simp [oneI, It.s, mk8]
  · rw [hc]; simp [oneI, It.l, mk8]
  · simp [oneI, It.l]
  · simp only [oneI, It.l]; exact AtL.nil _
def MkPost (key : ByteArray) (w : World) (e : Ending) (w' : World) : Prop := ∃ b, e = .returned (vI (mkI key) (some ⟨b, 0, none⟩) 2) ∧ AtB w' w'.heap.size (mkI key) (some ⟨b, 0, none⟩) 2 ∧ Below w.heap.size w w'
set_option maxRecDepth 100000 in
theorem den_mk (key : ByteArray) (w : World) : Calls Tryz.prog 17 #[.string key] w fun e w' => MkPost key w e w' := by
  obtain ⟨w1, hw1, b1, S⟩ := iblk1 w 28 #[.int .i64 0, .int .u64 0, .string ⟨#[]⟩, .slice none 0 0]
  have b2 := Blk.fresh w1 28 (mk8 key)
  have b1' := b1.alloc (.cells (mk8 key) 28)
  have S2 : Below w.heap.size w (w1.alloc (.cells (mk8 key) 28)) := S.alloc S.size _
  obtain ⟨w2, hw2⟩ : ∃ w2, w1.alloc (.cells (mk8 key) 28) = w2 := ⟨_, rfl⟩
  rw [hw2] at b2 b1' S2
  have hst := run_store_all (P := Tryz.prog) (ty := 28) (c' := #[.int .i64 5, .int .u64 0, .string ⟨#[]⟩, .slice (some ⟨w1.heap.size, 0, none⟩) 2 2]) b1' item_info4 rfl (by simp [Value.oneCell'])
  have b3 := b1'.setRow #[.int .i64 5, .int .u64 0, .string ⟨#[]⟩, .slice (some ⟨w1.heap.size, 0, none⟩) 2 2]
  have b4 := b2.farRow (i := w.heap.size) (by have := b1.lt; omega) #[.int .i64 5, .int .u64 0, .string ⟨#[]⟩, .slice (some ⟨w1.heap.size, 0, none⟩) 2 2]
  have S3 := below_row S2 (Nat.le_refl _) #[.int .i64 5, .int .u64 0, .string ⟨#[]⟩, .slice (some ⟨w1.heap.size, 0, none⟩) 2 2]
  generalize w2.setRow w.heap.size #[.int .i64 5, .int .u64 0, .string ⟨#[]⟩, .slice (some ⟨w1.heap.size, 0, none⟩) 2 2] = w3 at *
  have HST := Lib.hid hst
  have HB3 := Lib.hid b3
  have HA := Lib.hid (mk_at key b4)
  have HS := Lib.hid S3
  have HZI := item_zero4
  unfold mk8 at hw2
  clear b1 S b2 b1' S2 hst b3 b4 S3
  go_enter Tryz.func17, Tryz.ntmps17
  go_wp2_with (first
    | ((with_reducible refine is_store 28 rfl ?_); (with_reducible refine wpList_store_run rfl rfl HST.out ?_ ?_ ?_); (· rfl); (· rfl))
    | fail)
  refine bodyPost_ret (results_blk rfl _ rfl HB3.out Tryz.underlying28 rfl item_info4) rfl ?_
  exact ⟨w1.heap.size, by unfold vI; rw [mkI_len]; simp [mkI, It.k, It.n, It.s], HA.out, HS.out⟩
def aw18f : Array Value := #[.string ⟨#[97]⟩, .int .i64 1, .bool false, .string ⟨#[98]⟩, .int .i64 1, .bool true]
def aw18n : Nat → Array Value := fun g => #[.int .i64 8, .int .i64 0, .int .i64 0, .int .i64 0, .int .u64 0, .string ⟨#[]⟩, .slice none 0 0, .slice none 0 0, .slice (some ⟨g, 0, none⟩) 2 2,
  .int .i64 1, .int .i64 0, .int .i64 5, .int .i64 0, .int .u64 0, .string ⟨#[]⟩, .slice none 0 0, .slice none 0 0, .slice none 0 0]
theorem aw18_at (w : World) : ∃ w1, ((w.alloc (.cells aw18f 53)).alloc (.cells (aw18n w.heap.size) 47)).alloc (.cells #[.slice (some ⟨w.heap.size + 1, 0, none⟩) 2 2] 24) = w1 ∧ RdN w1 w1.heap.size (some ⟨w.heap.size + 1, 0, none⟩) aw18 ∧ Blk w1 (w.heap.size + 2) 24 #[.slice (some ⟨w.heap.size + 1, 0, none⟩) 2 2] ∧ Below w.heap.size w w1 := by
  refine ⟨_, rfl, ?_, Blk.freshAt _ _ _ _ (by simp), ((below_alloc w _).alloc (by simp) _).alloc (by simp; omega) _⟩
  have b0 := ((Blk.fresh w 53 aw18f).alloc (.cells (aw18n w.heap.size) 47)).alloc (.cells #[.slice (some ⟨w.heap.size + 1, 0, none⟩) 2 2] 24)
  have b1 := (Blk.freshAt (w.alloc (.cells aw18f 53)) 47 (aw18n w.heap.size) (w.heap.size + 1) (by simp)).alloc (.cells #[.slice (some ⟨w.heap.size + 1, 0, none⟩) 2 2] 24)
  intro _
  refine ⟨w.heap.size + 1, 0, rfl, b1.lt, b1.lt, fun i x hx => ?_⟩
  have hi := (List.getElem?_eq_some_iff.1 hx).1
  rcases (by simp [aw18] at hi; omega : i = 0 ∨ i = 1) with rfl | rfl
  · obtain rfl : (⟨8, 0, 0, zIt, [], fs18⟩ : Nd) = x := by injection hx
    refine ⟨⟨none, 0, none, 0, some ⟨w.heap.size, 0, none⟩, 2⟩, ⟨zIt_at _ _, (fun h => absurd h (by simp)), Nat.le_refl _, (fun _ => rfl), ?_, Nat.le_refl _, fun h => by cases h⟩, fun j u hu => ?_⟩
    · intro _
      refine ⟨w.heap.size, 0, rfl, b0.lt, b0.lt, fun i x hx => ?_⟩
      have hi := (List.getElem?_eq_some_iff.1 hx).1
      rcases (by simp [fs18] at hi; omega : i = 0 ∨ i = 1) with rfl | rfl
      · obtain rfl : fa18 = x := by injection hx
        exact ⟨by rw [b0.cell]; rfl, by rw [b0.cell]; rfl, by rw [b0.cell]; rfl⟩
      · obtain rfl : fb18 = x := by injection hx
        exact ⟨by rw [b0.cell]; rfl, by rw [b0.cell]; rfl, by rw [b0.cell]; rfl⟩
    · rw [b1.cell]
      have hj := (Array.getElem?_eq_some_iff.1 hu).1
      simp [nc] at hj
      rcases (by omega : j = 0 ∨ j = 1 ∨ j = 2 ∨ j = 3 ∨ j = 4 ∨ j = 5 ∨ j = 6 ∨ j = 7 ∨ j = 8) with rfl | rfl | rfl | rfl | rfl | rfl | rfl | rfl | rfl <;> exact hu
  · obtain rfl : (⟨1, 0, 5, zIt, [], []⟩ : Nd) = x := by injection hx
    refine ⟨⟨none, 0, none, 0, none, 0⟩, ⟨zIt_at _ _, (fun h => absurd h (by simp)), Nat.le_refl _, (fun _ => rfl), RdF.nil, Nat.le_refl _, fun _ => rfl⟩, fun j u hu => ?_⟩
    rw [b1.cell]
    have hj := (Array.getElem?_eq_some_iff.1 hu).1
    simp [nc] at hj
    rcases (by omega : j = 0 ∨ j = 1 ∨ j = 2 ∨ j = 3 ∨ j = 4 ∨ j = 5 ∨ j = 6 ∨ j = 7 ∨ j = 8) with rfl | rfl | rfl | rfl | rfl | rfl | rfl | rfl | rfl <;> exact hu
theorem den_ex {key : ByteArray} {f : Fl} (A : Option Addr) (b : Nat) (w : World) (hx : RdN w w.heap.size A aw18) (hi : AtB w w.heap.size (mkI key) (some ⟨b, 0, none⟩) 2) (hk : key.size ≤ 1048576) (hu : uok uq0 (sbytes key) = true) (hf : fM fs18 key = some f) :
    Calls Tryz.prog 8 #[vS A aw18 2, vI (mkI key) (some ⟨b, 0, none⟩) 2] w fun e w' => e = .returned (.tuple #[.bool (!f.opt), .int .i64 0]) ∧ Below w.heap.size w w' := by
  refine (den_Schema aw18 A 2 (mkI key) (some ⟨b, 0, none⟩) 2 w.heap.size R18 w (Nat.le_refl _) hx aw18_ok (by decide) aw18_check hi (mkI_ok key hk) (mkI_check key hu) (by decide) (rules18 key hk)).mono ?_
  rintro e w' ⟨⟨ps, hsp, rfl⟩, hb⟩
  exact ⟨by rw [val18 hsp hf], hb⟩
set_option maxRecDepth 100000 in
set_option maxHeartbeats 4000000 in
theorem den_awake (w : World) : Calls Tryz.prog 6 #[] w fun e w' => e = .returned (.bool true) ∧ Below w.heap.size w w' := by
  obtain ⟨w1, hw1, hx, bx, S⟩ := aw18_at w
  have HX := Lib.hid (fun W (hW : Below w1.heap.size w1 W) => (hx.keep hW).more hW.size)
  have HMA := Lib.hid (fun W => den_mk ⟨#[97]⟩ W)
  have HMB := Lib.hid (fun W => den_mk ⟨#[98]⟩ W)
  have HEA := Lib.hid (fun W (hW : Below w1.heap.size w1 W) (b : Nat) (h : AtB W W.heap.size (mkI ⟨#[97]⟩) (some ⟨b, 0, none⟩) 2) => den_ex (f := fa18) (some ⟨w.heap.size + 1, 0, none⟩) b W (HX.out W hW) h (by decide) (by decide) fM18_a)
  have HEB := Lib.hid (fun W (hW : Below w1.heap.size w1 W) (b : Nat) (h : AtB W W.heap.size (mkI ⟨#[98]⟩) (some ⟨b, 0, none⟩) 2) => den_ex (f := fb18) (some ⟨w.heap.size + 1, 0, none⟩) b W (HX.out W hW) h (by decide) (by decide) fM18_b)
  have HBX := Lib.hid bx
  have HS := Lib.hid S
  have c0 : w1.cell? ⟨w.heap.size + 1 + 1, 0, none⟩ = some (.slice (some ⟨w.heap.size + 1, 0, none⟩) 2 2) := sblk bx
  unfold vS at HEA HEB
  simp only [show aw18.length = 2 from rfl, show (!fa18.opt) = true from rfl, show (!fb18.opt) = false from rfl] at HEA HEB
  unfold aw18f aw18n at hw1
  clear hx bx S
  go_enter Tryz.func6, Tryz.ntmps6
  go_wp2_with fail
  have hfol : Tryz.prog.follows Departure.mixedOrders = true := by kernel_rfl
  have HD := Lib.hid (show Below w1.heap.size w1 w1.drew from (Below.refl _ _).drew)
  clear hw1
  go_region_with (first
    | (go_at_call 17; refine (HMA.out _).mono ?_; rintro e w3 ⟨b, rfl, hat, hb⟩; have HAT := Lib.hid hat; have HB3 := Lib.hid (HD.out.trans hb); have c3 : w3.cell? ⟨w.heap.size + 1 + 1, 0, none⟩ = some (.slice (some ⟨w.heap.size + 1, 0, none⟩) 2 2) := sblk (HBX.out.on HB3.out); clear hat hb)
    | (go_at_call 8; refine (HEA.out _ HB3.out b HAT.out).mono ?_; rintro e w4 ⟨rfl, hb⟩; have HB4 := Lib.hid (HB3.out.trans (hb.mono HB3.out.size)); have c4 : w4.cell? ⟨w.heap.size + 1 + 1, 0, none⟩ = some (.slice (some ⟨w.heap.size + 1, 0, none⟩) 2 2) := sblk (HBX.out.on HB4.out); clear hb)
    | fail)
  all_goals
    clear c0 c3 HD
    have HD := Lib.hid (show Below w4.heap.size w4 w4.drew from (Below.refl _ _).drew)
    go_wp2_with fail
    go_region_with (first
      | (go_at_call 17; refine (HMB.out _).mono ?_; rintro e w5 ⟨b', rfl, hat, hb⟩; have HAT5 := Lib.hid hat; have HB5 := Lib.hid (HB4.out.trans ((HD.out.trans hb).mono HB4.out.size)); have c5 : w5.cell? ⟨w.heap.size + 1 + 1, 0, none⟩ = some (.slice (some ⟨w.heap.size + 1, 0, none⟩) 2 2) := sblk (HBX.out.on HB5.out); clear hat hb)
      | (go_at_call 8; refine (HEB.out _ HB5.out b' HAT5.out).mono ?_; rintro e w6 ⟨rfl, hb⟩; have HB6 := Lib.hid (HB5.out.trans (hb.mono HB5.out.size)); clear hb)
      | fail)
    all_goals
      clear c4 c5
      go_wp2_with fail
      go_ret
      exact ⟨rfl, HS.out.trans (HB6.out.mono HS.out.size)⟩
end Go.Proofs.YtjelgoeamaejmaaGreat

/- Layer 18: one node of a number, one number. -/
namespace Go.Proofs.YtjelgoeamaejmaaGreat
open Go.RowKit

def numI (k n : Int) : It := .mk k n ⟨#[]⟩ []
theorem numI_items (k n : Int) (d : Nat) : (numI k n).items d = [(d, numI k n)] := by simp [numI, It.items, itemsL]
theorem numI_ok (k n : Int) (h0 : 0 ≤ n) (h1 : n < 18446744073709551616) : okI 1048576 (numI k n) := by
  refine ⟨by simp [numI, It.count, countL], fun d p hp => ?_⟩
  rw [numI_items] at hp
  simp only [List.mem_cons, List.not_mem_nil, or_false] at hp
  subst hp
  exact ⟨by simpa [numI, It.n] using h0, by simpa [numI, It.n] using h1, by show 0 ≤ _; omega⟩
theorem numI_check (k n : Int) (hk : k = 0 ∨ k = 1) : chI (numI k n) = 0 := by
  unfold chI checkR
  have hd : ¬ 64 < (numI k n).depth := by
    unfold It.depth
    rw [numI_items]
    show ¬ 64 < mostOf [1]
    decide
  rw [if_neg hd, numI_items]
  have h1 : wrongI (numI k n) = 0 := by
    unfold wrongI
    rcases hk with rfl | rfl
    · rw [if_neg (by simp [formB, numI, formK, It.k, It.s, It.l]), if_neg (by simp [rangB, numI, It.k]), if_neg (by simp [numI, It.k]), if_neg (by simp [numI, It.k])]
    · rw [if_neg (by simp [formB, numI, formK, It.k, It.s, It.l]), if_neg (by simp [rangB, numI, It.k]), if_neg (by simp [numI, It.k]), if_neg (by simp [numI, It.k])]
  simp [firstErr, h1]
theorem one_part {x : It} {ps : List Pt} (h : Sp x ps.length ps) (hx : x.count = 1) : ∃ p, ps = [p] ∧ p.x = x := by
  have hc := h.cnt
  rw [List.drop_of_length_le (Nat.le_refl _), hx] at hc
  have hl : ps.length = 1 := by simpa [cntP, countL] using hc
  match ps, hl with
  | [p], _ =>
    have := h.first
    exact ⟨p, rfl, by simpa using this⟩
def numN (lo hi : Int) : List Nd := [⟨1, lo, hi, zIt, [], []⟩]
theorem numN_ok (lo hi : Int) : ∀ x ∈ numN lo hi, okN x := by
  intro x hx
  simp only [numN, List.mem_cons, List.not_mem_nil, or_false] at hx
  subst hx
  exact ⟨okI_z, (fun y hy => by cases hy), by simp⟩
theorem numN_check (lo hi : Int) (h : lo ≤ hi) : checkE chI (numN lo hi) = 0 := by
  refine (checkE_all (by show ¬ (1 < 1 ∨ 256 < 1); decide) fun j hj => ?_).1
  have hj1 : j = 0 := by have : j < 1 := hj; omega
  subst hj1
  rw [errN_some (x := ⟨1, lo, hi, zIt, [], []⟩) rfl]
  exact wrong_not (by show ¬ ((1 : Int) < 0 ∨ 10 < 1); decide) (by simp [formN, Nd.of, sameN]) (by simp [rangedN, h]) rfl (by simp [nameE, namedN])
theorem den_num (lo hi k n : Int) (A : Option Addr) (cap : Nat) (w : World) (hx : RdN w w.heap.size A (numN lo hi)) (hlh : lo ≤ hi) (hk : k = 0 ∨ k = 1) (h0 : 0 ≤ n) (h1 : n < 18446744073709551616) :
    Calls Tryz.prog 9 #[.agg #[.slice A 1 cap], .int .i64 0, .agg #[.int .i64 k, .int .u64 n, .string ⟨#[]⟩, .slice none 0 0]] w fun e w' => e = .returned (.bool ((numR k n).2 && inR (numR k n).1 lo hi)) ∧ Below w.heap.size w w' := by
  have hat : AtB w w.heap.size (numI k n) none 0 := ⟨Nat.le_refl _, (fun _ => rfl), AtL.nil _⟩
  have hr : RulesOk (numN lo hi) (numI k n) 0 (fun ps _ a => loneR 1 lo hi (xAt ps a)) := by
    intro w0 nn ps hn hsp hpat node y p W B H cm g hy _ hnd _ _ hW
    obtain ⟨p0, rfl, hp0⟩ := one_part hsp (by simp [numI, It.count, countL])
    have hnode : node = 0 := by have : node < 1 := (List.getElem?_eq_some_iff.1 hy).1; omega
    subst hnode
    obtain rfl : (⟨1, lo, hi, zIt, [], []⟩ : Nd) = y := by injection hy
    refine rule_lone (xs := numN lo hi) p W B cm g _ _ _ (.inl rfl) ?_
    intro a q hq
    have e1 : xAt [p0] a = q.x := by unfold xAt; rw [hq]; rfl
    have e2 : q = p0 := by simpa using List.mem_of_getElem? hq
    refine ⟨by show loneR 1 lo hi (xAt [p0] a) = loneR 1 lo hi q.x; rw [e1], ?_⟩
    rw [e2, hp0]
    simpa [numI, It.n] using h0
  refine (den_Matches (numN lo hi) A cap (numI k n) none 0 w.heap.size 0 _ w (Nat.le_refl _) hx (numN_ok lo hi) (by show 1 ≤ 1048576; decide) (numN_check lo hi hlh) hat (numI_ok k n h0 h1) (numI_check k n hk) (by show 0 < 1; decide) hr).mono ?_
  rintro e w' ⟨⟨ps, hsp, rfl⟩, hb⟩
  obtain ⟨p0, rfl, hp0⟩ := one_part hsp (by simp [numI, It.count, countL])
  refine ⟨?_, hb⟩
  have e1 : xAt [p0] 0 = numI k n := hp0
  show Ending.returned (.bool (loneR 1 lo hi (xAt [p0] 0))) = _
  rw [e1]
  unfold loneR
  rw [if_pos rfl]
  rfl
end Go.Proofs.YtjelgoeamaejmaaGreat
