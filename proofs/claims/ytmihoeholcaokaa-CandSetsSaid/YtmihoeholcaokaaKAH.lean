/- A region that draws its order: first operations that only read, and calls that only read and draw, in any order; then the others, one by one. One walk in the order of the text serves every order. -/
import Derived.StillTail
import Derived.Deep.QuietTactic
import Derived.Still
import Derived.Test.YtmihoeholcaokaaKAE
import Derived.Test.YtmihoeholcaokaaKAG
namespace Go.Proofs.Ytmihoeholcaokaa
open Go

section
variable {P : Program} {ops : Array Oper} {md : Region.Mode} {C : World → Prop}

/-- f operations come up, all ahead of number n, whatever their order; then L holds. -/
def headQ (P : Program) (md : Region.Mode) (ops : Array Oper) (C : World → Prop) (n : Nat) (L : Array Bool → Act → Prop) : Nat → Array Bool → Act → Prop
  | 0, seen, a => L seen a
  | f + 1, seen, a => Region.ready md ops seen ≠ [] ∧ ∀ i, i ∈ Region.ready md ops seen → i < n ∧ qOp P ops C i (fun b => headQ P md ops C n L f (seen.setIfInBounds i true) b) a

theorem any_of_headQ {n g : Nat} {L : Array Bool → Act → Prop} {R : Exit → Act → World → Prop} (hL : ∀ seen a w, C w → L seen a → wpAny P md ops R g seen a w) (f : Nat) :
    ∀ (seen : Array Bool) (a : Act) (w : World), C w → headQ P md ops C n L f seen a → wpAny P md ops R (f + g) seen a w := by
  induction f with
  | zero => intro seen a w hw h; rw [Nat.zero_add]; exact hL _ _ _ hw h
  | succ f ih =>
    intro seen a w hw h
    rw [Nat.add_right_comm]
    refine ⟨fun e => (h.1 e).elim, fun i hi => ?_⟩
    exact wpOp_of_qOp hw (fun b w' hw' hb => ih _ b w' hw' hb) (h.2 i hi).2

/-- The next operation of the text may come first. -/
theorem headQ_first {n i : Nat} {oi : Oper} {v : Value} {L : Array Bool → Act → Prop} (hi : ops[i]? = some oi) (hsel : ∀ (j : Nat) (o : Oper) cs b, ops[j]? = some o → o.op ≠ .select cs b)
    (hs : Region.sinkB md ops n = true) (hc : Region.chainB md ops n = true) (hn : n < ops.size) (hin : i < n) (hend : ∀ seen a, L seen a → ∀ j, j ∈ Region.ready md ops seen → n ≤ j) (f : Nat) :
    ∀ (seen : Array Bool) (a : Act), HeadInv md ops n seen → (∀ j oj, ops[j]? = some oj → j ≠ i → seen.getD j true = false → (∀ e ∈ oj.after, Region.binds md e = true → e.on ≠ i) → oi.apart ops oj = true) →
      i ∈ Region.ready md ops seen → YieldsIn P ops C oi v a → headQ P md ops C n L f (seen.setIfInBounds i true) (a.put oi.dst v) → headQ P md ops C n L (f + 1) seen a := by
  induction f with
  | zero =>
    intro seen a inv _ hr hy H
    refine ⟨List.ne_nil_of_mem hr, fun j hj => ?_⟩
    have hjn : j < n := Nat.lt_of_not_le fun hle => tail_waits hs hc hn inv _ i rfl hin (mem_ready.1 hr).1 j hle hj
    refine ⟨hjn, ?_⟩
    rcases Decidable.em (j = i) with e | e
    · rw [e]; exact hy.qOp hi H
    · exact absurd (hend _ _ H j (ready_mono hj e)) (Nat.not_le_of_lt hjn)
  | succ f ih =>
    intro seen a inv hfree hr hy H
    have hun := (mem_ready.1 hr).1
    refine ⟨List.ne_nil_of_mem hr, fun j hj => ?_⟩
    have hjn : j < n := Nat.lt_of_not_le fun hle => tail_waits hs hc hn inv _ i rfl hin hun j hle hj
    refine ⟨hjn, ?_⟩
    rcases Decidable.em (j = i) with e | e
    · rw [e]; exact hy.qOp hi H
    obtain ⟨hju, oj, hoj, hall⟩ := mem_ready.1 hj
    have hno : ∀ x ∈ oj.after, Region.binds md x = true → x.on ≠ i := fun x hx hb he => by
      have := hall x hx hb
      rw [he, getD_both hun] at this
      exact Bool.noConfusion this
    have h1 := (H.2 j (ready_mono hj e)).2
    have h2 := qOp_put hoj (hfree j oj hoj e hju hno) (fun cs b => hsel i oi cs b hi) (fun cs b => hsel j oj cs b hoj) hy h1
    refine qOp_mono (fun b hb => ?_) h2
    refine ih _ b (inv.set hj hjn) (fun k ok hk hki hku hkn => ?_) (ready_mono hr (Ne.symm e)) hb.1 ?_
    · refine hfree k ok hk hki ?_ hkn
      rcases Decidable.em (j = k) with ejk | ejk
      · rw [← ejk]; exact hju
      · rwa [getD_set_ne true ejk] at hku
    · rw [Array.setIfInBounds_comm _ _ e]
      exact hb.2

theorem headQ_lex {n g : Nat} {K : Act → Prop} (hsel : Region.noSelect ops = true) (hs : Region.sinkB md ops n = true) (hc : Region.chainB md ops n = true) (hn : n < ops.size) (l : List Oper) :
    ∀ (k : Nat) (seen : Array Bool) (a : Act), (∀ j, j < l.length → l[j]? = ops[k + j]?) → k + l.length = n → HeadInv md ops n seen → Region.lexHead md ops g l.length k seen = true → wpQuiet P ops C K l a →
      headQ P md ops C n (fun s b => Region.seqB md ops g n s = true ∧ K b) l.length seen a := by
  induction l with
  | nil =>
    intro k seen a _ hk _ hB h
    obtain rfl : k = n := hk
    exact ⟨hB, h⟩
  | cons o l ih =>
    intro k seen a hl hk inv hB h
    have h0 : ops[k]? = some o := (hl 0 (Nat.succ_pos _)).symm
    rw [List.length_cons] at hk
    simp only [List.length_cons, Region.lexHead, Bool.and_eq_true, List.contains_iff_mem] at hB
    have hkn : k < n := by omega
    have hq : qOp P ops C k (wpQuiet P ops C K l) a := by unfold qOp; rw [h0]; exact h
    obtain ⟨v, hy, hK⟩ := yieldsIn_of_qOp h0 hq
    refine headQ_first h0 (Region.noSelect_spec hsel) hs hc hn hkn (fun s b hL => seqB_ready hL.1) l.length seen a inv (Region.free_spec h0 hB.1.2) hB.1.1 hy ?_
    refine ih (k + 1) _ _ (fun j hj => ?_) (by omega) (inv.set hB.1.1 hkn) hB.2 hK
    have := hl (j + 1) (by simpa using hj)
    rw [show k + 1 + j = k + (j + 1) by omega, ← this]
    rfl

/-- The region: its first n operations quiet, the others behind them in the order of the text. -/
theorem wp_region_quiet_tail {id : Nat} {Q : Exit → Act → World → Prop} {a : Act} {w : World} {l : List Oper} (n : Nat) (hm : P.follows .mixedOrders = true) (hB : Region.lexTailB .any l.toArray n = true)
    (h : wpQuiet P l.toArray (fun w' => ∃ d, w' = w.drewN d) (fun b => ∀ w', (∃ d, w' = w.drewN d) → wpList P l.toArray Q (l.drop n) b w') (l.take n) a) : (Code.region id l.toArray true).wp P Q a w := by
  simp only [Region.lexTailB, Bool.and_eq_true, decide_eq_true_eq] at hB
  obtain ⟨⟨⟨⟨hsel, hn⟩, hs⟩, hc⟩, hlex⟩ := hB
  have hn' : n < l.length := hn
  have htl : (l.take n).length = n := by rw [List.length_take]; omega
  have hsz : l.toArray.size - n = (l.drop n).length := by rw [List.length_drop]; rfl
  rw [hsz] at hlex
  have inv0 : HeadInv .any l.toArray n (Array.replicate l.toArray.size false) :=
    ⟨Array.size_replicate, fun j _ _ hj => (by rw [getD_replicate_false] at hj; exact Bool.noConfusion hj), fun t _ ht => getD_in (by rw [Array.size_replicate]; exact ht) (getD_replicate_false _ _)⟩
  have H := headQ_lex (md := .any) hsel hs hc hn (l.take n) 0 _ a (fun j hj => by rw [htl] at hj; simp [hj]) (by omega) inv0 (by rw [htl]; exact hlex) h
  have H2 := any_of_headQ (R := Q) (g := (l.drop n).length) (fun s b w' hw' hL => wpAny_of_seq (l.drop n) n s b w' (fun j => by simp [List.getElem?_drop]) hL.1 (hL.2 w' hw')) _ _ _ { w with drawn := w.drawn + 1 } ⟨1, rfl⟩ H
  refine wp_region_any hm ?_
  rw [htl, ← hsz, show n + (l.toArray.size - n) = l.toArray.size by have : l.toArray.size = l.length := rfl; omega] at H2
  exact H2
end
end Go.Proofs.Ytmihoeholcaokaa

/- Package item: two items held against each other by themselves. -/
namespace Go.Proofs.Ytmihoeholcaokaa
open Go.RowKit

/-- A block of an item's four cells. -/
theorem iblk {w : World} {g : Nat} {t : TypeId} {a b c d : Value} (h : Blk w g t #[a, b, c, d]) :
    w.cell? ⟨g, 0, none⟩ = some a ∧ w.cell? ⟨g, 1, none⟩ = some b ∧ w.cell? ⟨g, 2, none⟩ = some c ∧ w.cell? ⟨g, 3, none⟩ = some d ∧ w.frozen? ⟨g, 3, none⟩ = false :=
  ⟨by rw [h.cell]; rfl, by rw [h.cell]; rfl, by rw [h.cell]; rfl, by rw [h.cell]; rfl, h.free 3⟩
/-- Two items boxed, one behind the other. -/
theorem iblk2 (w : World) (t : TypeId) (a b : Array Value) : ∃ w1, (w.alloc (.cells a t)).alloc (.cells b t) = w1 ∧ Blk w1 w.heap.size t a ∧ Blk w1 (w.heap.size + 1) t b ∧ Below w.heap.size w w1 :=
  ⟨_, rfl, (Blk.fresh w t a).alloc _, by have := Blk.fresh (w.alloc (.cells a t)) t b; rwa [World.size_alloc] at this, (below_alloc w _).alloc (by simp) _⟩
theorem iblk2B (w : World) (t : TypeId) (a b : Array Value) : ∃ w1, (w.alloc (.cells a t)).alloc (.cells b t) = w1 ∧ Blk w1 w.heap.size t a ∧ Blk w1 (w.heap.size + 1) t b ∧ Bel w.heap.size w w1 :=
  ⟨_, rfl, (Blk.fresh w t a).alloc _, by have := Blk.fresh (w.alloc (.cells a t)) t b; rwa [World.size_alloc] at this, (bel_alloc w _).alloc (by simp) _⟩
theorem iblk1 (w : World) (t : TypeId) (a : Array Value) : ∃ w1, w.alloc (.cells a t) = w1 ∧ Blk w1 w.heap.size t a ∧ Below w.heap.size w w1 :=
  ⟨_, rfl, Blk.fresh w t a, below_alloc w _⟩

set_option maxRecDepth 100000 in
set_option maxHeartbeats 2000000 in
theorem item_compareOneB (k1 n1 k2 n2 : Int) (s1 s2 : ByteArray) (A1 A2 : Option Addr) (m1 c1 m2 c2 : Nat) (w : World) :
    Calls Try.prog 47 #[.agg #[.int .i64 k1, .int .u64 n1, .string s1, .slice A1 m1 c1], .agg #[.int .i64 k2, .int .u64 n2, .string s2, .slice A2 m2 c2]] w fun e w' =>
      e = .returned (.int .i64 (orC (intC k1 k2) (intC n1 n2) (intC m1 m2) (textC s1 s2))) ∧ Bel w.heap.size w w' := by
  have C1 := Lib.hid (fun w => cmp_int k1 k2 w)
  have C2 := Lib.hid (fun w => cmp_u64 n1 n2 w)
  have C3 := Lib.hid (fun w => cmp_int m1 m2 w)
  have C4 := Lib.hid (fun w => strings_compare s1 s2 w)
  generalize intC k1 k2 = x1 at *
  generalize intC n1 n2 = x2 at *
  generalize intC m1 m2 = x3 at *
  generalize textC s1 s2 = x4 at *
  go_enter Try.func47, Try.ntmps47
  go_wp2_with fail
  obtain ⟨w1, hw1, b1, b2, S⟩ := iblk2B w 39 #[.int .i64 k1, .int .u64 n1, .string s1, .slice A1 m1 c1] #[.int .i64 k2, .int .u64 n2, .string s2, .slice A2 m2 c2]
  rw [hw1]
  clear hw1
  have HS := Lib.hid S
  clear S
  generalize hgg : w.heap.size = g at *
  obtain ⟨p0, p1, p2, p3, -⟩ := iblk b1
  obtain ⟨q0, q1, q2, q3, -⟩ := iblk b2
  clear b1 b2
  refine wp_region_quiet_tail 22 (by kernel_rfl) (by kernel_rfl) ?_
  simp only [List.take_succ_cons, List.take_zero, List.drop_succ_cons, List.drop_zero]
  repeat (quiet_step (first | (with_reducible exact Calls.quiet_of_same (C1.out _)) | (with_reducible exact Calls.quiet_of_same (C2.out _)) | (with_reducible exact Calls.quiet_of_same (C3.out _)) | (with_reducible exact Calls.quiet_of_same (C4.out _))))
  refine wpQuiet_nil ?_
  rintro _ ⟨q, rfl⟩
  have HS2 := Lib.hid (HS.out.drewN q)
  have hg : g ≤ (w1.drewN q).heap.size := Nat.le_of_lt (block_lt_of_cell p0)
  generalize w1.drewN q = w2 at *
  go_wp2_with (go_at_call 52; refine (cmp_or x1 x2 x3 x4 _ _ (fun i hi => ?_)).mono ?_)
  · rw [(Blk.fresh w2 _ _).cell]
    rcases (by omega : i = 0 ∨ i = 1 ∨ i = 2 ∨ i = 3) with rfl | rfl | rfl | rfl <;> rfl
  · rintro e w' ⟨rfl, rfl⟩
    go_wp2
    go_ret
    exact ⟨rfl, by rw [hgg]; exact HS2.out.trans ((bel_alloc w2 _).mono hg)⟩
theorem item_compareOne (k1 n1 k2 n2 : Int) (s1 s2 : ByteArray) (A1 A2 : Option Addr) (m1 c1 m2 c2 : Nat) (w : World) :
    Calls Try.prog 47 #[.agg #[.int .i64 k1, .int .u64 n1, .string s1, .slice A1 m1 c1], .agg #[.int .i64 k2, .int .u64 n2, .string s2, .slice A2 m2 c2]] w fun e w' =>
      e = .returned (.int .i64 (orC (intC k1 k2) (intC n1 n2) (intC m1 m2) (textC s1 s2))) ∧ Below w.heap.size w w' :=
  (item_compareOneB k1 n1 k2 n2 s1 s2 A1 A2 m1 c1 m2 c2 w).mono fun _ _ h => ⟨h.1, h.2.toBelow⟩
end Go.Proofs.Ytmihoeholcaokaa

/- Plain floats: a format's sign, number and power; what is wide, what is shortest. -/
namespace Go.Proofs.Ytmihoeholcaokaa

/-- The formats: width in bytes; the bits of the exponent, of the fraction; the least power (in halves of the least double). -/
inductive Fm : Int → Nat → Nat → Nat → Prop
  | half : Fm 2 5 10 1050
  | single : Fm 4 8 23 925
  | double : Fm 8 11 52 0

def fsg (E F x : Nat) : Nat := x / 2 ^ (E + F) % 2
def fex (E F x : Nat) : Nat := x / 2 ^ F % 2 ^ E
def ffr (F x : Nat) : Nat := x % 2 ^ F
def fnum (E F x : Nat) : Nat := if fex E F x = 0 then ffr F x else ffr F x + 2 ^ F
def fpow (E F O x : Nat) : Nat := fex E F x - 1 + O
/-- The value of a finite float, its sign apart. -/
def fval (E F O x : Nat) : Nat := fnum E F x * 2 ^ fpow E F O x
def fenc (E F O s M q : Nat) : Nat := s * 2 ^ (E + F) + (if M < 2 ^ F then M else (q - O + 1) * 2 ^ F + (M - 2 ^ F))
/-- A number and a power as a form has them. -/
def FNF (F O M q : Nat) : Prop := O ≤ q ∧ M < 2 ^ (F + 1) ∧ (2 ^ F ≤ M ∨ q = O)

section
variable {W : Int} {E F O x y : Nat}
theorem f_split (h : Fm W E F O) (hx : x < 2 ^ (1 + E + F)) : x = fsg E F x * 2 ^ (E + F) + fex E F x * 2 ^ F + ffr F x := by
  cases h <;> simp only [fsg, fex, ffr] at * <;> omega
theorem f_small (h : Fm W E F O) (x : Nat) : fsg E F x < 2 ∧ fex E F x < 2 ^ E ∧ ffr F x < 2 ^ F := by
  cases h <;> simp only [fsg, fex, ffr] <;> omega
/-- Put together out of parts. -/
theorem f_parts (h : Fm W E F O) {s e f : Nat} (hs : s < 2) (he : e < 2 ^ E) (hf : f < 2 ^ F) :
    s * 2 ^ (E + F) + e * 2 ^ F + f < 2 ^ (1 + E + F) ∧ fsg E F (s * 2 ^ (E + F) + e * 2 ^ F + f) = s ∧ fex E F (s * 2 ^ (E + F) + e * 2 ^ F + f) = e ∧ ffr F (s * 2 ^ (E + F) + e * 2 ^ F + f) = f := by
  cases h <;> simp only [fsg, fex, ffr] at * <;> omega
theorem f_nf (h : Fm W E F O) (x : Nat) : FNF F O (fnum E F x) (fpow E F O x) := by
  have := f_small h x
  unfold FNF fnum fpow
  cases h <;> split <;> omega
theorem f_enc (h : Fm W E F O) (hx : x < 2 ^ (1 + E + F)) : fenc E F O (fsg E F x) (fnum E F x) (fpow E F O x) = x := by
  have h1 := f_small h x
  have h2 := f_split h hx
  unfold fenc fnum fpow
  cases h <;> split <;> split <;> omega
/-- What a number and a power are as a form. -/
theorem f_dec (h : Fm W E F O) {s M q : Nat} (hs : s < 2) (hn : FNF F O M q) (hq : q - O + 1 < 2 ^ E - 1) :
    fenc E F O s M q < 2 ^ (1 + E + F) ∧ fsg E F (fenc E F O s M q) = s ∧ fex E F (fenc E F O s M q) < 2 ^ E - 1 ∧ fnum E F (fenc E F O s M q) = M ∧ fpow E F O (fenc E F O s M q) = q := by
  obtain ⟨h1, h2, h3⟩ := hn
  by_cases hM : M < 2 ^ F
  · have e : fenc E F O s M q = s * 2 ^ (E + F) + 0 * 2 ^ F + M := by unfold fenc; rw [if_pos hM]; omega
    have he : 0 < 2 ^ E := Nat.two_pow_pos E
    obtain ⟨p1, p2, p3, p4⟩ := f_parts h hs he hM
    rw [e]
    refine ⟨p1, p2, by omega, ?_, ?_⟩
    · unfold fnum; rw [p3, if_pos rfl, p4]
    · unfold fpow; rw [p3]; omega
  · have e : fenc E F O s M q = s * 2 ^ (E + F) + (q - O + 1) * 2 ^ F + (M - 2 ^ F) := by unfold fenc; rw [if_neg hM]; omega
    have hf : M - 2 ^ F < 2 ^ F := by rw [Nat.pow_succ] at h2; omega
    obtain ⟨p1, p2, p3, p4⟩ := f_parts h hs (show q - O + 1 < 2 ^ E by omega) hf
    rw [e]
    refine ⟨p1, p2, by omega, ?_, ?_⟩
    · unfold fnum; rw [p3, if_neg (by omega), p4]; omega
    · unfold fpow; rw [p3]; omega

theorem nf_low {F O M q M' q' : Nat} (h : FNF F O M q) (h' : FNF F O M' q') (e : M * 2 ^ q = M' * 2 ^ q') : ¬ q < q' := by
  intro hlt
  obtain ⟨a, b, c⟩ := h
  obtain ⟨a', b', c'⟩ := h'
  have hM : 2 ^ F ≤ M' := by omega
  have : q' = q + (q' - q) := by omega
  rw [this, Nat.pow_add, ← Nat.mul_assoc, Nat.mul_right_comm] at e
  have e2 := Nat.eq_of_mul_eq_mul_right (Nat.two_pow_pos q) e
  have hp : 2 ≤ 2 ^ (q' - q) := by
    have := Nat.pow_le_pow_right (show 0 < 2 by decide) (show 1 ≤ q' - q by omega)
    omega
  have := Nat.mul_le_mul hM hp
  rw [Nat.pow_succ] at b
  omega
theorem nf_same {F O M q M' q' : Nat} (h : FNF F O M q) (h' : FNF F O M' q') (e : M * 2 ^ q = M' * 2 ^ q') : M = M' ∧ q = q' := by
  have a := nf_low h h' e
  have b := nf_low h' h e.symm
  have hq : q = q' := by omega
  subst hq
  exact ⟨Nat.eq_of_mul_eq_mul_right (Nat.two_pow_pos q) e, rfl⟩
/-- A form is known by its sign and its value. -/
theorem f_inj (h : Fm W E F O) (hx : x < 2 ^ (1 + E + F)) (hy : y < 2 ^ (1 + E + F)) (hs : fsg E F x = fsg E F y) (hv : fval E F O x = fval E F O y) : x = y := by
  obtain ⟨a, b⟩ := nf_same (f_nf h x) (f_nf h y) hv
  rw [← f_enc h hx, ← f_enc h hy, hs, a, b]

def FNan (E F x : Nat) : Prop := fex E F x = 2 ^ E - 1 ∧ ffr F x ≠ 0
instance instFNan (E F x : Nat) : Decidable (FNan E F x) := by unfold FNan; exact inferInstance
def finf (E F s : Nat) : Nat := s * 2 ^ (E + F) + (2 ^ E - 1) * 2 ^ F
/-- The double x is the form y, wider. -/
def Wide (E F O y x : Nat) : Prop :=
  y < 2 ^ (1 + E + F) ∧ x < 2 ^ 64 ∧ ((FNan E F y ∧ x = 9221120237041090560) ∨ (fex E F y = 2 ^ E - 1 ∧ ffr F y = 0 ∧ x = finf 11 52 (fsg E F y)) ∨
    (fex E F y < 2 ^ E - 1 ∧ fex 11 52 x < 2047 ∧ fsg 11 52 x = fsg E F y ∧ fval 11 52 0 x = fval E F O y))
theorem inf_parts (h : Fm W E F O) {s : Nat} (hs : s < 2) : finf E F s < 2 ^ (1 + E + F) ∧ fsg E F (finf E F s) = s ∧ fex E F (finf E F s) = 2 ^ E - 1 ∧ ffr F (finf E F s) = 0 := by
  have := f_parts h hs (show 2 ^ E - 1 < 2 ^ E by have := Nat.two_pow_pos E; omega) (Nat.two_pow_pos F)
  exact this
theorem inf_of (h : Fm W E F O) (hx : x < 2 ^ (1 + E + F)) (he : fex E F x = 2 ^ E - 1) (hf : ffr F x = 0) : x = finf E F (fsg E F x) := by
  have := f_split h hx
  rw [he, hf] at this
  exact this
theorem nan_wide : FNan 11 52 9221120237041090560 := by unfold FNan fex ffr; decide
theorem wide_fun (_h : Fm W E F O) {x' : Nat} (a : Wide E F O y x) (b : Wide E F O y x') : x = x' := by
  obtain ⟨_, ax, a⟩ := a
  obtain ⟨_, bx, b⟩ := b
  rcases a with ⟨⟨a1, a2⟩, a3⟩ | ⟨a1, a2, a3⟩ | ⟨a1, a2, a3, a4⟩ <;> rcases b with ⟨⟨b1, b2⟩, b3⟩ | ⟨b1, b2, b3⟩ | ⟨b1, b2, b3, b4⟩ <;> first | omega | skip
  exact f_inj .double ax bx (a3.trans b3.symm) (a4.trans b4.symm)
theorem wide_inj (h : Fm W E F O) {y' : Nat} (a : Wide E F O y x) (b : Wide E F O y' x) (hx : ¬ FNan 11 52 x) : y = y' := by
  obtain ⟨ay, ax, a⟩ := a
  obtain ⟨yb, bx, b⟩ := b
  rcases a with ⟨⟨a1, a2⟩, a3⟩ | ⟨a1, a2, a3⟩ | ⟨a1, a2, a3, a4⟩
  · exact absurd (a3 ▸ nan_wide) hx
  all_goals rcases b with ⟨⟨b1, b2⟩, b3⟩ | ⟨b1, b2, b3⟩ | ⟨b1, b2, b3, b4⟩
  · exact absurd (b3 ▸ nan_wide) hx
  · have i1 := inf_parts .double (f_small h y).1
    have i2 := inf_parts .double (f_small h y').1
    rw [← a3] at i1
    rw [← b3] at i2
    rw [inf_of h ay a1 a2, inf_of h yb b1 b2, ← i1.2.1, ← i2.2.1]
  · have i1 := inf_parts .double (f_small h y).1
    rw [← a3] at i1
    omega
  · exact absurd (b3 ▸ nan_wide) hx
  · have i1 := inf_parts .double (f_small h y').1
    rw [← b3] at i1
    omega
  · exact f_inj h ay yb (a3.symm.trans b3) (a4.symm.trans b4)
/-- The shortest form of the double x is z, of v bytes. -/
def Shortest (x z v : Nat) : Prop :=
  (FNan 11 52 x ∧ z = 32256 ∧ v = 2) ∨ (¬ FNan 11 52 x ∧ ((v = 2 ∧ Wide 5 10 1050 z x) ∨ (v = 4 ∧ Wide 8 23 925 z x ∧ ∀ y, ¬ Wide 5 10 1050 y x) ∨
    (v = 8 ∧ z = x ∧ (∀ y, ¬ Wide 5 10 1050 y x) ∧ ∀ y, ¬ Wide 8 23 925 y x)))
theorem shortest_fun {z v z' v' : Nat} (a : Shortest x z v) (b : Shortest x z' v') : z = z' ∧ v = v' := by
  rcases a with ⟨a0, a1, a2⟩ | ⟨a0, a⟩ <;> rcases b with ⟨b0, b1, b2⟩ | ⟨b0, b⟩
  · omega
  · exact absurd a0 b0
  · exact absurd b0 a0
  rcases a with ⟨a1, a2⟩ | ⟨a1, a2, a3⟩ | ⟨a1, a2, a3, a4⟩ <;> rcases b with ⟨b1, b2⟩ | ⟨b1, b2, b3⟩ | ⟨b1, b2, b3, b4⟩
  · exact ⟨wide_inj .half a2 b2 a0, by omega⟩
  · exact absurd a2 (b3 _)
  · exact absurd a2 (b3 _)
  · exact absurd b2 (a3 _)
  · exact ⟨wide_inj .single a2 b2 a0, by omega⟩
  · exact absurd a2 (b4 _)
  · exact absurd b2 (a3 _)
  · exact absurd b2 (a4 _)
  · omega
end
end Go.Proofs.Ytmihoeholcaokaa
