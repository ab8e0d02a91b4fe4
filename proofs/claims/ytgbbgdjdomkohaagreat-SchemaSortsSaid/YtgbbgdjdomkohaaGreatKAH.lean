/- The document's float: value. -/
import Derived.Test.YtgbbgdjdomkohaaGreatKAG
import Derived.RegionTactic
import Derived.Laws.BitsAllLaws
import Derived.Laws.Shifts
namespace Go.Proofs.YtgbbgdjdomkohaaGreat
open Go.RowKit
theorem results_tmp4 {fn : Func} {t u v x : Tmp} (h : fn.results = #[.tmp t, .tmp u, .tmp v, .tmp x]) (tmps : Array Value) (P : Program) (w : World) :
    (results fn tmps).run P w = .ok (.tuple #[tmps.getD t undef, tmps.getD u undef, tmps.getD v undef, tmps.getD x undef]) w := by
  simp [results, h]
theorem ret_four {a b c d a' b' c' d' : Value} (h1 : a = a') (h2 : b = b') (h3 : c = c') (h4 : d = d') : Ending.returned (.tuple #[a, b, c, d]) = .returned (.tuple #[a', b', c', d']) := by rw [h1, h2, h3, h4]
theorem val_num {k : IntKind} {a b : Int} (h : a = b) : Value.int k a = Value.int k b := by rw [h]
/-- M, halved j times, is m. -/
def Halved (M j m : Nat) : Prop := M = m * 2 ^ j
theorem halved_step {M j m : Nat} (h : Halved M j m) (h2 : m % 2 = 0) : Halved M (j + 1) (m / 2) := by
  unfold Halved at *
  rw [Nat.pow_succ, Nat.mul_comm (2 ^ j), ← Nat.mul_assoc, Nat.div_mul_cancel (Nat.dvd_of_mod_eq_zero h2)]
  exact h
theorem halved_small {M j m B : Nat} (h : Halved M j m) (h0 : 0 < m) (hM : M < 2 ^ B) : j < B := by
  unfold Halved at h
  have := Nat.mul_le_mul_right (2 ^ j) h0
  exact (Nat.pow_lt_pow_iff_right (by decide)).1 (show 2 ^ j < 2 ^ B by omega)
theorem halved_le {M j m : Nat} (h : Halved M j m) : m ≤ M := by
  unfold Halved at h
  have := Nat.mul_le_mul_left m (Nat.two_pow_pos j)
  omega
theorem halved_value {E F O x j m : Nat} (h : Halved (fnum E F x) j m) : fval E F O x = m * 2 ^ (fpow E F O x + j) := by
  unfold Halved at h
  unfold fval
  rw [h, Nat.mul_assoc, ← Nat.pow_add, Nat.add_comm j]
end Go.Proofs.YtgbbgdjdomkohaaGreat

/- The document's float: bits. -/
namespace Go.Proofs.YtgbbgdjdomkohaaGreat
open Go.RowKit
/-- m, doubled j times, is M. -/
def Raised (m j M : Nat) : Prop := M = m * 2 ^ j
theorem raised_step {m j M : Nat} (h : Raised m j M) : Raised m (j + 1) (M * 2) := by
  unfold Raised at *
  rw [h, Nat.pow_succ, Nat.mul_assoc]
def BitsPost (E F O s m q : Nat) (e : Ending) : Prop := ∃ (z : Nat) (ok : Bool), e = .returned (.tuple #[.int .u64 z, .bool ok]) ∧ BitsTo E F O s m q z ok
theorem bits_post {E F O s m q z : Nat} {ok : Bool} {zi : Int} (h : BitsTo E F O s m q z ok) (hz : zi = z) : BitsPost E F O s m q (.returned (.tuple #[.int .u64 zi, .bool ok])) := ⟨z, ok, by rw [hz], h⟩
theorem raised_value {m j M q q' : Nat} (h : Raised m j M) (hq : q' + j = q) : M * 2 ^ q' = m * 2 ^ q := by
  unfold Raised at h
  rw [h, ← hq, Nat.mul_assoc, ← Nat.pow_add, Nat.add_comm j]
end Go.Proofs.YtgbbgdjdomkohaaGreat

/- The document's float: Widen and Shortest. -/
namespace Go.Proofs.YtgbbgdjdomkohaaGreat
open Go.RowKit
/-- x is the double of the form y of W bytes. -/
def Wd (W : Int) (y x : Nat) : Prop := (W = 2 ∧ Wide 5 10 1050 y x) ∨ (W = 4 ∧ Wide 8 23 925 y x) ∨ (W = 8 ∧ Wide 11 52 0 y x)
theorem wd_fun {W : Int} {y x x' : Nat} (a : Wd W y x) (b : Wd W y x') : x = x' := by
  rcases a with ⟨h, a⟩ | ⟨h, a⟩ | ⟨h, a⟩ <;> rcases b with ⟨h', b⟩ | ⟨h', b⟩ | ⟨h', b⟩ <;> first | omega | skip
  · exact wide_fun .half a b
  · exact wide_fun .single a b
  · exact wide_fun .double a b
theorem wd_lt {W : Int} {y x : Nat} (a : Wd W y x) : x < 2 ^ 64 := by
  rcases a with ⟨_, a⟩ | ⟨_, a⟩ | ⟨_, a⟩ <;> exact a.2.1
theorem sh_nan {x : Nat} (h : FNan 11 52 x) : Shortest x 32256 2 := Or.inl ⟨h, rfl, rfl⟩
theorem sh_inf {x : Nat} (hx : x < 2 ^ 64) (he : fex 11 52 x = 2047) (hf : ffr 52 x = 0) : Shortest x (finf 5 10 (fsg 11 52 x)) 2 := by
  refine Or.inr ⟨fun h => h.2 hf, Or.inl ⟨rfl, ?_⟩⟩
  obtain ⟨a, b, c, d⟩ := inf_parts .half (f_small .double x).1
  have := widen_inf .half a c d
  rw [b, ← inf_of .double hx he hf] at this
  exact this
theorem sh_zero {x : Nat} (hx : x < 2 ^ 64) (he : fex 11 52 x = 0) (hf : ffr 52 x = 0) : Shortest x (fsg 11 52 x * 2 ^ (5 + 10)) 2 := by
  refine Or.inr ⟨fun h => h.2 hf, Or.inl ⟨rfl, ?_⟩⟩
  obtain ⟨a, b, c, d⟩ := f_parts .half (f_small .double x).1 (show 0 < 2 ^ 5 by decide) (show 0 < 2 ^ 10 by decide)
  rw [Nat.zero_mul, Nat.add_zero, Nat.add_zero] at a b c d
  have := widen_zero .half a c d
  have h2 := f_split .double hx
  rw [he, hf, Nat.zero_mul, Nat.add_zero, Nat.add_zero] at h2
  rw [b, ← h2] at this
  exact this
def PairPost (P : Nat → Prop) (e : Ending) : Prop := ∃ z : Nat, e = .returned (.tuple #[.int .u64 z, .bool true]) ∧ P z
theorem pair_post {P : Nat → Prop} {z : Nat} {zi : Int} (h : P z) (hz : zi = z) : PairPost P (.returned (.tuple #[.int .u64 zi, .bool true])) := ⟨z, by rw [hz], h⟩
def SPost (P : Nat → Nat → Prop) (e : Ending) : Prop := ∃ z v : Nat, e = .returned (.tuple #[.int .u64 z, .int .i64 v]) ∧ P z v
theorem s_post {P : Nat → Nat → Prop} {z v : Nat} {zi vi : Int} (h : P z v) (hz : zi = z) (hv : vi = v) : SPost P (.returned (.tuple #[.int .u64 zi, .int .i64 vi])) := ⟨z, v, by rw [hz, hv], h⟩
end Go.Proofs.YtgbbgdjdomkohaaGreat

/- The shortest float: of the document, of the code. -/
namespace Go.Proofs.YtgbbgdjdomkohaaGreat
open Go.RowKit
/-- What the code's loop knows ahead of the width i. -/
def LeftOff (x : Nat) (i : Int) : Prop := i = 2 ∨ (i = 4 ∧ ∀ y, ¬ Wide 5 10 1050 y x) ∨ (i = 8 ∧ (∀ y, ¬ Wide 5 10 1050 y x) ∧ ∀ y, ¬ Wide 8 23 925 y x)
set_option maxHeartbeats 4000000 in
theorem float_Shortest (x : Nat) (h : x < 2 ^ 64) (w : World) :
    Calls Tryz.prog 62 #[.int .u64 x] w fun e w' => SPost (Shortest x) e ∧ Below w.heap.size w w' := by
  have HNa := Lib.hid (float_NaN x h)
  by_cases hn : FNan 11 52 x
  · have HR := Lib.hid (sh_nan hn)
    rw [show decide (FNan 11 52 x) = true by simp [hn]] at HNa
    clear hn h
    generalize (x : Int) = z at *
    go_enter Tryz.func62, Tryz.ntmps62
    go_wp2_with (go_at_call 58; refine (HNa.out _).mono ?_; rintro e w1 ⟨rfl, S1⟩)
    refine bodyPost_ret (results_tmp2 rfl _ _ _) rfl ?_
    exact ⟨s_post HR.out rfl rfl, S1⟩
  · rw [show decide (FNan 11 52 x) = false by simp [hn]] at HNa
    have HN := Lib.hid hn
    have HX := Lib.hid (fun _ : Unit => h)
    have H2 := Lib.hid (float_narrow_half x h hn)
    have H4 := Lib.hid (float_narrow_single x h hn)
    generalize hx : (x : Int) = z at *
    have HZ := Lib.hid (fun _ : Unit => hx)
    clear hn h hx
    go_enter Tryz.func62, Tryz.ntmps62
    go_wp2_with (go_at_call 58; refine (HNa.out _).mono ?_; rintro e w1 ⟨rfl, S1⟩)
    have HS1 := Lib.hid S1
    clear S1
    go_loopw [4] (fun i wr => ∃ n : Int, i = .int .i64 n ∧ LeftOff x n ∧ Below w.heap.size w wr) (fun i _ => (8 - intOf i).toNat)
    case atStart => exact ⟨2, rfl, Or.inl rfl, HS1.out⟩
    case round =>
      obtain ⟨n, rfl, hl, S2⟩ := hrel
      have HS2 := Lib.hid S2
      clear S2
      rcases hl with rfl | ⟨rfl, hl⟩ | ⟨rfl, hl⟩
      · go_wp2_with fail
        refine (H2.out _).mono ?_
        rintro e w2 ⟨y, rfl, hy, hw, S3⟩
        have HWI := Lib.hid (float_Widen_half y hy)
        have HW := Lib.hid (fun _ : Unit => hw)
        have HS3 := Lib.hid (HS2.out.trans (S3.mono HS2.out.size))
        clear hy hw S3
        generalize hyl : (y : Int) = yl at *
        have HY := Lib.hid (fun _ : Unit => hyl)
        clear hyl
        go_wp2_with fail
        refine (HWI.out _).mono ?_
        rintro e w3 ⟨b, rfl, hb, S4⟩
        have HS4 := Lib.hid (HS3.out.trans (S4.mono HS3.out.size))
        by_cases hbx : b = x
        · have HR := Lib.hid (show Shortest x y 2 from Or.inr ⟨HN.out, Or.inl ⟨rfl, hbx ▸ hb⟩⟩)
          have hbz : (b : Int) = z := by rw [hbx]; exact HZ.out ()
          rw [hbz]
          clear hb S4 hbx hbz
          go_wp2_with fail
          refine bodyPost_ret (results_tmp2 rfl _ _ _) rfl ?_
          exact ⟨s_post HR.out (HY.out ()).symm rfl, HS4.out⟩
        · have HNO : Hid (∀ y', ¬ Wide 5 10 1050 y' x) := Lib.hid (fun y' hw' => hbx (wide_fun .half hb (by rw [HW.out () y' hw']; exact hw')))
          have hbz : ((b : Int) == z) = false := by
            have := HZ.out ()
            simp
            omega
          clear hb S4 hbx
          generalize (b : Int) = bl at *
          go_wp2_with fail
          go_roundw
          case rel => exact ⟨4, rfl, Or.inr (Or.inl ⟨rfl, HNO.out⟩), HS4.out⟩
          case measure => simp [intOf]
      · have HL := Lib.hid (fun _ : Unit => hl)
        clear hl
        go_wp2_with fail
        refine (H4.out _).mono ?_
        rintro e w2 ⟨y, rfl, hy, hw, S3⟩
        have HWI := Lib.hid (float_Widen_single y hy)
        have HW := Lib.hid (fun _ : Unit => hw)
        have HS3 := Lib.hid (HS2.out.trans (S3.mono HS2.out.size))
        clear hy hw S3
        generalize hyl : (y : Int) = yl at *
        have HY := Lib.hid (fun _ : Unit => hyl)
        clear hyl
        go_wp2_with fail
        refine (HWI.out _).mono ?_
        rintro e w3 ⟨b, rfl, hb, S4⟩
        have HS4 := Lib.hid (HS3.out.trans (S4.mono HS3.out.size))
        by_cases hbx : b = x
        · have HR := Lib.hid (show Shortest x y 4 from Or.inr ⟨HN.out, Or.inr (Or.inl ⟨rfl, hbx ▸ hb, HL.out ()⟩)⟩)
          have hbz : (b : Int) = z := by rw [hbx]; exact HZ.out ()
          rw [hbz]
          clear hb S4 hbx hbz
          go_wp2_with fail
          refine bodyPost_ret (results_tmp2 rfl _ _ _) rfl ?_
          exact ⟨s_post HR.out (HY.out ()).symm rfl, HS4.out⟩
        · have HNO : Hid (∀ y', ¬ Wide 8 23 925 y' x) := Lib.hid (fun y' hw' => hbx (wide_fun .single hb (by rw [HW.out () y' hw']; exact hw')))
          have hbz : ((b : Int) == z) = false := by
            have := HZ.out ()
            simp
            omega
          clear hb S4 hbx
          generalize (b : Int) = bl at *
          go_wp2_with fail
          go_roundw
          case rel => exact ⟨8, rfl, Or.inr (Or.inr ⟨rfl, HL.out (), HNO.out⟩), HS4.out⟩
          case measure => simp [intOf]
      · have HR := Lib.hid (show Shortest x x 8 from Or.inr ⟨HN.out, Or.inr (Or.inr ⟨rfl, rfl, hl⟩)⟩)
        clear hl
        go_wp2_with fail
        refine bodyPost_ret (results_tmp2 rfl _ _ _) rfl ?_
        exact ⟨s_post HR.out (HZ.out ()).symm rfl, HS2.out⟩
end Go.Proofs.YtgbbgdjdomkohaaGreat

/- Floats: any width; whether a form is the shortest one. -/
namespace Go.Proofs.YtgbbgdjdomkohaaGreat
open Go.RowKit
def WPost (W : Int) (x : Nat) (e : Ending) : Prop := (∃ z : Nat, e = .returned (.tuple #[.int .u64 z, .bool true]) ∧ Wd W x z) ∨ (e = .returned (.tuple #[.int .u64 0, .bool false]) ∧ ∀ z, ¬ Wd W x z)
theorem no_half {x : Nat} (h : 65536 ≤ x) (z : Nat) : ¬ Wd 2 x z := by
  rintro (⟨_, a⟩ | ⟨a, _⟩ | ⟨a, _⟩)
  · have := a.1; omega
  · omega
  · omega
theorem no_single {x : Nat} (h : 4294967296 ≤ x) (z : Nat) : ¬ Wd 4 x z := by
  rintro (⟨a, _⟩ | ⟨_, a⟩ | ⟨a, _⟩)
  · omega
  · have := a.1; omega
  · omega
theorem no_other {W : Int} {x : Nat} (h2 : W ≠ 2) (h4 : W ≠ 4) (h8 : W ≠ 8) (z : Nat) : ¬ Wd W x z := by
  rintro (⟨a, _⟩ | ⟨a, _⟩ | ⟨a, _⟩) <;> omega
theorem float_Widen_all (x : Nat) (hx : x < 2 ^ 64) (W : Int) (w : World) :
    Calls Tryz.prog 74 #[.int .u64 x, .int .i64 W] w fun e w' => WPost W x e ∧ Below w.heap.size w w' := by
  by_cases h2 : W = 2
  · subst h2
    by_cases h : x < 2 ^ (1 + 5 + 10)
    · exact (float_Widen_half x h w).mono fun e w' ⟨z, a, b, c⟩ => ⟨Or.inl ⟨z, a, Or.inl ⟨rfl, b⟩⟩, c⟩
    · exact (float_Widen_half_not x hx (by omega) w).mono fun e w' ⟨a, b⟩ => ⟨Or.inr ⟨a, no_half (by omega)⟩, b⟩
  by_cases h4 : W = 4
  · subst h4
    by_cases h : x < 2 ^ (1 + 8 + 23)
    · exact (float_Widen_single x h w).mono fun e w' ⟨z, a, b, c⟩ => ⟨Or.inl ⟨z, a, Or.inr (Or.inl ⟨rfl, b⟩)⟩, c⟩
    · exact (float_Widen_single_not x hx (by omega) w).mono fun e w' ⟨a, b⟩ => ⟨Or.inr ⟨a, no_single (by omega)⟩, b⟩
  by_cases h8 : W = 8
  · subst h8
    exact (float_Widen_double x hx w).mono fun e w' ⟨z, a, b, c⟩ => ⟨Or.inl ⟨z, a, Or.inr (Or.inr ⟨rfl, b⟩)⟩, c⟩
  · exact (float_Widen_other x W h2 h4 h8 w).mono fun e w' ⟨a, b⟩ => ⟨Or.inr ⟨a, no_other h2 h4 h8⟩, b⟩
def IsShort (W : Int) (x : Nat) : Prop := ∃ z v : Nat, Wd W x z ∧ Shortest z x v ∧ (v : Int) = W
def BPost (P : Prop) (e : Ending) : Prop := ∃ b : Bool, e = .returned (.bool b) ∧ (b = true ↔ P)
theorem b_yes {P : Prop} (h : P) : BPost P (.returned (.bool true)) := ⟨true, rfl, by simp [h]⟩
theorem b_no {P : Prop} (h : ¬ P) : BPost P (.returned (.bool false)) := ⟨false, rfl, by simp [h]⟩
end Go.Proofs.YtgbbgdjdomkohaaGreat

/- Plain numbers: the number of bytes, the greatest one first. -/
namespace Go.Proofs.YtgbbgdjdomkohaaGreat

/-- The number of the bytes l modulo M. -/
def big (M : Int) (l : List Int) : Int := l.foldl (fun x c => (x * 256 + c) % M) 0
def ByteL (l : List Int) : Prop := ∀ c ∈ l, 0 ≤ c ∧ c < 256
/-- The first n, missing ones 0. -/
def pad (l : List Int) (n : Nat) : List Int := (List.range n).map fun i => l.getD i 0

theorem big_nil (M : Int) : big M [] = 0 := rfl
theorem big_snoc (M : Int) (l : List Int) (c : Int) : big M (l ++ [c]) = (big M l * 256 + c) % M := by simp [big]
theorem big_range (M : Int) (l : List Int) (hM : 0 < M) : 0 ≤ big M l ∧ big M l < M := by
  rcases List.eq_nil_or_concat l with rfl | ⟨a, c, rfl⟩
  · simp [big, hM]
  · rw [List.concat_eq_append, big_snoc]
    exact ⟨Int.emod_nonneg _ (by omega), Int.emod_lt_of_pos _ hM⟩
theorem take_snoc (l : List Int) (k : Nat) (h : k < l.length) : l.take (k + 1) = l.take k ++ [l.getD k 0] := by
  rw [List.take_succ_eq_append_getElem h]; simp [List.getD, h]
theorem big_take (M : Int) (l : List Int) (k : Nat) (h : k < l.length) : big M (l.take (k + 1)) = (big M (l.take k) * 256 + l.getD k 0) % M := by
  rw [take_snoc l k h, big_snoc]
theorem ByteL.get {l : List Int} (h : ByteL l) (k : Nat) : 0 ≤ l.getD k 0 ∧ l.getD k 0 < 256 := by
  by_cases hk : k < l.length
  · have : l.getD k 0 = l[k] := by simp [List.getD, hk]
    rw [this]; exact h _ (List.getElem_mem _)
  · have : l.getD k 0 = 0 := by simp [List.getD, List.getElem?_eq_none (Nat.le_of_not_lt hk)]
    rw [this]; decide
theorem ByteL.pad {l : List Int} (h : ByteL l) (n : Nat) : ByteL (pad l n) := by
  intro c hc
  simp only [Proofs.YtgbbgdjdomkohaaGreat.pad, List.mem_map] at hc
  obtain ⟨i, _, rfl⟩ := hc
  exact h.get i
theorem length_pad (l : List Int) (n : Nat) : (pad l n).length = n := by simp [pad]
theorem pad_succ (l : List Int) (n : Nat) : pad l (n + 1) = pad l n ++ [l.getD n 0] := by simp [pad, List.range_succ]
theorem pad_all (l : List Int) : pad l l.length = l := by
  apply List.ext_getElem
  · simp [pad]
  · intro i h1 h2
    simp [pad, List.getD, h2]
theorem big_pad (M : Int) (l : List Int) (n : Nat) : big M (pad l (n + 1)) = (big M (pad l n) * 256 + l.getD n 0) % M := by
  rw [pad_succ, big_snoc]

theorem or_low (x c : Int) (M : Int) (hM : 0 < M) (hd : (256 : Int) ∣ M) (_hx : 0 ≤ x) (hc : 0 ≤ c) (hc' : c < 256) :
    (((x * 256 % M).toNat ||| c.toNat : Nat) : Int) = (x * 256 + c) % M := by
  obtain ⟨m, rfl⟩ := hd
  have hm : 0 < m := by omega
  have e1 : x * 256 % (256 * m) = 256 * (x % m) := by rw [Int.mul_comm x, Int.mul_emod_mul_of_pos _ _ (by decide)]
  have h0 : 0 ≤ x % m := Int.emod_nonneg _ (by omega)
  have h1 : x % m < m := Int.emod_lt_of_pos _ hm
  have e2 : (x * 256 + c) % (256 * m) = 256 * (x % m) + c := by
    have hx' : x * 256 + c = (256 * (x % m) + c) + (256 * m) * (x / m) := by
      have := Int.emod_add_mul_ediv x m
      rw [Int.mul_assoc]
      omega
    rw [hx', Int.add_mul_emod_self_left, Int.emod_eq_of_lt (by omega)]
    omega
  rw [e1, e2]
  obtain ⟨X, hX⟩ := Int.eq_ofNat_of_zero_le h0
  obtain ⟨C, rfl⟩ := Int.eq_ofNat_of_zero_le hc
  rw [hX]
  have hC : C < 2 ^ 8 := by omega
  have e3 : (256 * (X : Int)).toNat = 2 ^ 8 * X := by omega
  rw [e3, Int.toNat_natCast, ← Nat.two_pow_add_eq_or_of_lt hC]
  omega

theorem or_step32 (x c : Int) (hx : 0 ≤ x) (hc : 0 ≤ c ∧ c < 256) : bits BinOp.or IntKind.u32 (x * 256 % 4294967296) c = (x * 256 + c) % 4294967296 := by
  rw [u32_or _ _ (by omega) (by omega) hc.1 (by omega)]
  exact or_low x c _ (by decide) ⟨16777216, by decide⟩ hx hc.1 hc.2
theorem or_step64 (x c : Int) (hx : 0 ≤ x) (hc : 0 ≤ c ∧ c < 256) : bits BinOp.or IntKind.u64 (x * 256 % 18446744073709551616) c = (x * 256 + c) % 18446744073709551616 := by
  rw [u64_or _ _ (by omega) (by omega) hc.1 (by omega)]
  exact or_low x c _ (by decide) ⟨72057594037927936, by decide⟩ hx hc.1 hc.2
theorem mod_step (x c M : Int) : (x * 256 % M + c) % M = (x * 256 + c) % M := by rw [Int.emod_add_emod]
end Go.Proofs.YtgbbgdjdomkohaaGreat

/- Package head: plain numbers. -/
namespace Go.Proofs.YtgbbgdjdomkohaaGreat

/-- How many bytes a number needs as an argument. -/
def leastW (a : Int) : Int := if a < 24 then 0 else if a < 256 then 1 else if a < 65536 then 2 else if a < 4294967296 then 4 else 8
/-- A reader's state. -/
structure HQ where
  major : Int
  width : Int
  arg : Int
  left : Int
  opn : Bool
  wrong : Int
def hcells (q : HQ) : Array Value := #[.int .i64 q.major, .int .i64 q.width, .int .u64 q.arg, .int .i64 q.left, .bool q.opn, .int .i64 q.wrong]
def hq0 : HQ := ⟨0, 0, 0, 0, false, 0⟩
/-- How many bytes the info tells of. -/
def hwid (i : Int) : Int := if i = 24 then 1 else if i = 25 then 2 else if i = 26 then 4 else if i = 27 then 8 else 0
/-- What is wrong with a first byte. -/
def hbad (m i : Int) : Int := if i < 28 then 0 else if i = 31 ∧ 2 ≤ m ∧ m ≤ 5 then 5 else 2
def hbeg (m i : Int) : HQ := if 28 ≤ i then ⟨m, 0, 0, 0, true, hbad m i⟩ else if i < 24 then ⟨m, 0, i, 0, true, 0⟩ else ⟨m, hwid i, 0, hwid i, true, 0⟩
def hbegin (c : Int) : HQ := hbeg (c / 32) (c % 32)
def hfollow (q : HQ) (c : Int) : HQ :=
  ⟨q.major, q.width, (q.arg * 256 + c) % 18446744073709551616, q.left - 1, q.opn, if q.major = 7 ∧ q.width = 1 ∧ (q.arg * 256 + c) % 18446744073709551616 < 32 then 2 else q.wrong⟩
open Classical in
noncomputable def fshort (W a : Int) : Bool := decide (IsShort W a.toNat)
noncomputable def hshort (m W a : Int) : Bool := if m = 7 ∧ 1 < W then fshort W a else W == leastW a
/-- A step: the state behind it, whether the head ended, the error. -/
def hmid (q : HQ) (c : Int) : HQ := if q.wrong ≠ 0 then q else if q.opn = true then hfollow q c else hbegin c
def HQ.more (q : HQ) : Prop := q.wrong ≠ 0 ∨ 0 < q.left
instance (q : HQ) : Decidable q.more := inferInstanceAs (Decidable (_ ∨ _))
def hstep (q : HQ) (c : Int) : HQ := if (hmid q c).more then hmid q c else { hmid q c with opn := false }
def hdone (q : HQ) (c : Int) : Bool := !decide (hmid q c).more
noncomputable def herr (q : HQ) (c : Int) : Int := if (hmid q c).more then (hmid q c).wrong else if hshort (hmid q c).major (hmid q c).width (hmid q c).arg then 0 else 5
/-- A state in which a step can be taken. -/
def HOk (q : HQ) : Prop := 0 ≤ q.arg ∧ q.arg < 18446744073709551616 ∧ 0 ≤ q.left ∧ q.left ≤ 8

/-- The head at the front of a list, as the document's answer tells it: major type, width, argument, how many bytes, the wrong one's place, the error. -/
structure HR where
  major : Int
  width : Int
  arg : Int
  many : Int
  place : Int
  e : Int
def hnone (place e : Int) : HR := ⟨0, 0, 0, 0, place, e⟩
def harg (L : List Int) (W : Int) : Int := big 18446744073709551616 (pad (L.drop 1) W.toNat)
noncomputable def hlong (m W a : Int) : HR := ⟨m, W, a, 1 + W, if hshort m W a then -1 else W, if hshort m W a then 0 else 5⟩
noncomputable def hread (L : List Int) : HR :=
  if L.length = 0 then hnone 0 9
  else if 28 ≤ L.getD 0 0 % 32 then hnone 0 (hbad (L.getD 0 0 / 32) (L.getD 0 0 % 32))
  else if L.getD 0 0 % 32 < 24 then ⟨L.getD 0 0 / 32, 0, L.getD 0 0 % 32, 1, -1, 0⟩
  else if (L.length : Int) ≤ hwid (L.getD 0 0 % 32) then hnone L.length 9
  else if L.getD 0 0 / 32 = 7 ∧ hwid (L.getD 0 0 % 32) = 1 ∧ harg L (hwid (L.getD 0 0 % 32)) < 32 then hnone 1 2
  else hlong (L.getD 0 0 / 32) (hwid (L.getD 0 0 % 32)) (harg L (hwid (L.getD 0 0 % 32)))
theorem hwid_of (i : Int) (h : 24 ≤ i) (h' : i < 28) : (i = 24 ∧ hwid i = 1) ∨ (i = 25 ∧ hwid i = 2) ∨ (i = 26 ∧ hwid i = 4) ∨ (i = 27 ∧ hwid i = 8) := by
  have : i = 24 ∨ i = 25 ∨ i = 26 ∨ i = 27 := by omega
  rcases this with rfl | rfl | rfl | rfl <;> simp [hwid]
theorem hbad_ne {m i : Int} (h : 28 ≤ i) : hbad m i = 5 ∨ hbad m i = 2 := by
  unfold hbad
  rw [if_neg (by omega)]
  split <;> simp
open Classical in
theorem BPost.eq {P : Prop} {e : Ending} (h : BPost P e) : e = .returned (.bool (decide P)) := by
  obtain ⟨b, rfl, hb⟩ := h
  by_cases hp : P
  · rw [hb.2 hp]; simp [hp]
  · have : b = false := by cases b <;> simp_all
    rw [this]; simp [hp]
end Go.Proofs.YtgbbgdjdomkohaaGreat
