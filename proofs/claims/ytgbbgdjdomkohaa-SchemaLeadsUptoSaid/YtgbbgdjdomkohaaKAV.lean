/- Package float: a NaN, a float put together. -/
import Derived.Test.YtgbbgdjdomkohaaKAU
import Derived.Test.YtgbbgdjdomkohaaRows
import Derived.Test.YtgbbgdjdomkohaaKAB
import Derived.Test.YtgbbgdjdomkohaaKAC
import Derived.RegionTactic
namespace Go.Proofs.Ytgbbgdjdomkohaa
open Go.RowKit
section
variable {W E F M B : Int} {ne nf O : Nat}
theorem or_parts {s e f a b : Nat} (hs : s < 2) (he : e < 2 ^ a) (hf : f < 2 ^ b) (hab : 1 + a + b ≤ 64) :
    bits .or .u64 (bits .or .u64 ((s * 2 ^ (a + b) : Nat) : Int) ((e * 2 ^ b : Nat) : Int)) (f : Int) = ((s * 2 ^ (a + b) + e * 2 ^ b + f : Nat) : Int) := by
  have h0 : 2 ^ (1 + a + b) ≤ 2 ^ 64 := Nat.pow_le_pow_right (by decide) hab
  have e1 : 2 ^ (1 + a + b) = 2 * (2 ^ a * 2 ^ b) := by rw [Nat.pow_add, Nat.pow_add, Nat.pow_one, Nat.mul_assoc]
  have e2 : 2 ^ (a + b) = 2 ^ a * 2 ^ b := Nat.pow_add 2 a b
  have h1 : e * 2 ^ b + f < 2 ^ a * 2 ^ b := by
    have := Nat.mul_le_mul_right (2 ^ b) (show e + 1 ≤ 2 ^ a from he)
    rw [Nat.add_mul] at this
    omega
  have h2 : s * 2 ^ (a + b) ≤ 1 * 2 ^ (a + b) := Nat.mul_le_mul_right _ (by omega)
  rw [bits_or_u64_nat _ _ (by omega) (by omega)]
  have j1 : s * 2 ^ (a + b) ||| e * 2 ^ b = s * 2 ^ (a + b) + e * 2 ^ b := nat_join (a + b) _ _ (Nat.mul_mod_left _ _) (by omega)
  rw [j1, bits_or_u64_nat _ _ (by omega) (by omega)]
  have j2 : s * 2 ^ (a + b) + e * 2 ^ b ||| f = s * 2 ^ (a + b) + e * 2 ^ b + f := nat_join b _ _ (by
    rw [e2, ← Nat.mul_assoc, ← Nat.add_mul]; exact Nat.mul_mod_left _ _) hf
  rw [j2]
set_option maxHeartbeats 1000000 in
theorem float_isNaN (h : Fz W E F M B ne nf O) (s e f : Int) (w : World) :
    Calls Try.prog 68 #[.agg (parts s e f), .int .i64 W] w fun r w' => r = .returned (.bool (decide (e = M ∧ f ≠ 0))) ∧ Below w.heap.size w w' := by
  have h2 := Lib.hid (float_most h)
  clear h
  unfold parts
  by_cases he : e = M
  · subst he
    have HD : decide (e = e ∧ f ≠ 0) = (f != 0) := by simp [bne, BEq.beq]
    rw [HD]
    clear HD
    go_enter Try.func68, Try.ntmps68
    go_wp2_with fail
    have b0 : Blk (w.alloc (.cells (parts s e f) 99)) w.heap.size 99 (parts s e f) := Blk.fresh _ _ _
    have S : Below w.heap.size w (w.alloc (.cells (parts s e f) 99)) := below_alloc _ _
    unfold parts at b0 S
    generalize w.alloc (.cells #[.int .u64 s, .int .i64 e, .int .u64 f] 99) = w1 at *
    generalize hgg : w.heap.size = g at *
    obtain ⟨c0, c1, c2, fz⟩ := pblk b0
    clear fz b0
    go_quiet (with_reducible exact Calls.quiet_of_same ((h2.out _).mono (fun _ _ h => ⟨h.1, h.2.symm⟩)))
    go_wp2
    go_ret
    exact ⟨rfl, by rw [hgg]; exact below_drawnN S _⟩
  · have HD : decide (e = M ∧ f ≠ 0) = false := by simp [he]
    have he' : (e == M) = false := by simp [he]
    rw [HD]
    clear HD he
    go_enter Try.func68, Try.ntmps68
    go_wp2_with fail
    have b0 : Blk (w.alloc (.cells (parts s e f) 99)) w.heap.size 99 (parts s e f) := Blk.fresh _ _ _
    have S : Below w.heap.size w (w.alloc (.cells (parts s e f) 99)) := below_alloc _ _
    unfold parts at b0 S
    generalize w.alloc (.cells #[.int .u64 s, .int .i64 e, .int .u64 f] 99) = w1 at *
    generalize hgg : w.heap.size = g at *
    obtain ⟨c0, c1, c2, fz⟩ := pblk b0
    clear fz b0
    go_quiet (with_reducible exact Calls.quiet_of_same ((h2.out _).mono (fun _ _ h => ⟨h.1, h.2.symm⟩)))
    go_wp2
    go_ret
    exact ⟨rfl, by rw [hgg]; exact below_drawnN S _⟩
end
end Go.Proofs.Ytgbbgdjdomkohaa

/- Package float: a number below the least normal one. -/
namespace Go.Proofs.Ytgbbgdjdomkohaa
open Go.RowKit
def cellInt (g o : Nat) (w : World) : Nat := match w.cell? ⟨g, o, none⟩ with | some v => (intOf v).toNat | none => 0
theorem cellInt_of {w : World} {g o : Nat} {k : IntKind} {n : Int} (h : w.cell? ⟨g, o, none⟩ = some (.int k n)) : cellInt g o w = n.toNat := by
  unfold cellInt; rw [h]; rfl
def upN (f k : Nat) : Nat := f * 2 ^ k
def dnN (c k : Nat) : Nat := c - k
theorem upN_eq (f k : Nat) : upN f k = f * 2 ^ k := rfl
theorem dnN_eq (c k : Nat) : dnN c k = c - k := rfl
attribute [irreducible] upN dnN
end Go.Proofs.Ytgbbgdjdomkohaa

/- Package float: a half or a single, widened. -/
namespace Go.Proofs.Ytgbbgdjdomkohaa
open Go.RowKit
end Go.Proofs.Ytgbbgdjdomkohaa

/- Package float: Widen, NaN. -/
namespace Go.Proofs.Ytgbbgdjdomkohaa
open Go.RowKit
theorem float_NaN (x : Nat) (hx : x < 18446744073709551616) (w : World) :
    Calls Try.prog 64 #[.int .u64 x] w fun e w' => e = .returned (.bool (decide (FNan 11 52 x))) ∧ Below w.heap.size w w' := by
  have h1 := Lib.hid (float_split .double x hx)
  have h2 := Lib.hid (float_isNaN .double (fsg 11 52 x) (fex 11 52 x) (ffr 52 x))
  have e : decide ((fex 11 52 x : Int) = 2047 ∧ (ffr 52 x : Int) ≠ 0) = decide (FNan 11 52 x) := by
    unfold FNan
    have : ((fex 11 52 x : Int) = 2047 ∧ (ffr 52 x : Int) ≠ 0) ↔ (fex 11 52 x = 2 ^ 11 - 1 ∧ ffr 52 x ≠ 0) := by omega
    simp only [this]
  rw [e] at h2
  go_enter Try.func64, Try.ntmps64
  go_wp2_with (first | (go_at_call 69; refine (h1.out _).mono ?_; rintro r w' ⟨rfl, S1⟩) | (go_at_call 68; refine (h2.out _).mono ?_; rintro r w'' ⟨rfl, S2⟩))
  go_ret
  exact ⟨rfl, S1.trans (S2.mono S1.size)⟩
end Go.Proofs.Ytgbbgdjdomkohaa

/- Package utf: a walk's steps. -/
namespace Go.Proofs.Ytgbbgdjdomkohaa
open Go.RowKit

theorem utf_bounds (c : Int) (w : World) :
    Calls Try.prog 66 #[.int .u8 c] w fun e w' => e = .returned (.tuple #[.int .u8 (ulo c), .int .u8 (uhi c)]) ∧ w = w' := by
  by_cases h1 : c = 224
  · subst h1
    go_enter Try.func66, Try.ntmps66
    go_wp2
    go_ret2
    exact ⟨rfl, rfl⟩
  by_cases h2 : c = 237
  · subst h2
    go_enter Try.func66, Try.ntmps66
    go_wp2
    go_ret2
    exact ⟨rfl, rfl⟩
  by_cases h3 : c = 240
  · subst h3
    go_enter Try.func66, Try.ntmps66
    go_wp2
    go_ret2
    exact ⟨rfl, rfl⟩
  by_cases h4 : c = 244
  · subst h4
    go_enter Try.func66, Try.ntmps66
    go_wp2
    go_ret2
    exact ⟨rfl, rfl⟩
  have e1 : ulo c = 128 := by unfold ulo; rw [if_neg h1, if_neg h3]
  have e2 : uhi c = 191 := by unfold uhi; rw [if_neg h2, if_neg h4]
  rw [e1, e2]
  clear e1 e2
  go_enter Try.func66, Try.ntmps66
  go_wp2
  go_ret2
  exact ⟨rfl, rfl⟩

theorem ublk {w : World} {g : Nat} {t : TypeId} {q : UQ} (h : Blk w g t (ucells q)) :
    w.cell? ⟨g, 0, none⟩ = some (.int .i64 q.left) ∧ w.cell? ⟨g, 1, none⟩ = some (.int .u8 q.lo) ∧ w.cell? ⟨g, 2, none⟩ = some (.int .u8 q.hi) ∧ w.cell? ⟨g, 3, none⟩ = some (.bool q.wr) ∧ (∀ i, w.frozen? ⟨g, i, none⟩ = false) :=
  ⟨h.cell 0, h.cell 1, h.cell 2, h.cell 3, h.free⟩
theorem umore_some {c : Int} {n : Nat} (h : umore c = some n) : (n = 3 ∧ 240 ≤ c ∧ c ≤ 244) ∨ (n = 2 ∧ 224 ≤ c ∧ c ≤ 239) ∨ (n = 1 ∧ 194 ≤ c ∧ c ≤ 223) ∨ (n = 0 ∧ c ≤ 127) := by
  unfold umore at h
  split at h
  · injection h; omega
  split at h
  · injection h; omega
  split at h
  · injection h; omega
  split at h
  · injection h; omega
  · cases h
theorem umore_none {c : Int} (h : umore c = none) : 127 < c ∧ ¬ (194 ≤ c ∧ c ≤ 223) ∧ ¬ (224 ≤ c ∧ c ≤ 239) ∧ ¬ (240 ≤ c ∧ c ≤ 244) := by
  unfold umore at h
  split at h
  · cases h
  split at h
  · cases h
  split at h
  · cases h
  split at h
  · cases h
  · omega
theorem ucells_put (l : Nat) (lo hi : Int) (wr : Bool) (a b : Int) (n : Nat) : (((ucells ⟨l, lo, hi, wr⟩).setIfInBounds 0 (.int .i64 n)).setIfInBounds 1 (.int .u8 a)).setIfInBounds 2 (.int .u8 b) = ucells ⟨n, a, b, wr⟩ := rfl
theorem utf_begin_some (c : Int) (n : Nat) (l : Int) (h : Int) (hn : umore c = some n) (w : World) (g : Nat) (hg : Blk w g 72 (ucells ⟨0, l, h, false⟩)) :
    Calls Try.prog 59 #[.pointer (some ⟨g, 0, none⟩), .int .u8 c] w fun e w' => e = .returned (.bool true) ∧ Blk w' g 72 (ucells ⟨n, ulo c, uhi c, false⟩) ∧ Only g w w' := by
  obtain ⟨c0, c1, c2, c3, fz⟩ := ublk hg
  have f0 := fz 0
  have f1 := fz 1
  have f2 := fz 2
  have z : ((0 : Nat) : Int) = 0 := rfl
  simp only [z] at c0
  clear fz c3 z
  rcases umore_some hn with ⟨rfl, r1, r2⟩ | ⟨rfl, r1, r2⟩ | ⟨rfl, r1, r2⟩ | ⟨rfl, r1⟩
  · go_enter Try.func59, Try.ntmps59
    go_wp2_with (go_at_call 66; refine (utf_bounds _ _).mono ?_; rintro e w' ⟨rfl, rfl⟩)
    go_ret
    exact ⟨rfl, ((((hg.put 0 (.int .i64 1)).put 0 (.int .i64 2)).put 0 (.int .i64 3)).put 1 (.int .u8 (ulo c))).put 2 (.int .u8 (uhi c)), (((((Only.refl g w).put 0 _).put 0 _).put 0 _).put 1 _).put 2 _⟩
  · go_enter Try.func59, Try.ntmps59
    go_wp2_with (go_at_call 66; refine (utf_bounds _ _).mono ?_; rintro e w' ⟨rfl, rfl⟩)
    go_ret
    exact ⟨rfl, (((hg.put 0 (.int .i64 1)).put 0 (.int .i64 2)).put 1 (.int .u8 (ulo c))).put 2 (.int .u8 (uhi c)), ((((Only.refl g w).put 0 _).put 0 _).put 1 _).put 2 _⟩
  · go_enter Try.func59, Try.ntmps59
    go_wp2_with (go_at_call 66; refine (utf_bounds _ _).mono ?_; rintro e w' ⟨rfl, rfl⟩)
    go_ret
    exact ⟨rfl, ((hg.put 0 (.int .i64 1)).put 1 (.int .u8 (ulo c))).put 2 (.int .u8 (uhi c)), (((Only.refl g w).put 0 _).put 1 _).put 2 _⟩
  · go_enter Try.func59, Try.ntmps59
    go_wp2_with (go_at_call 66; refine (utf_bounds _ _).mono ?_; rintro e w' ⟨rfl, rfl⟩)
    go_ret
    exact ⟨rfl, (hg.put 1 (.int .u8 (ulo c))).put 2 (.int .u8 (uhi c)), ((Only.refl g w).put 1 _).put 2 _⟩
theorem utf_begin_none (c : Int) (hn : umore c = none) (w : World) (g : Nat) :
    Calls Try.prog 59 #[.pointer (some ⟨g, 0, none⟩), .int .u8 c] w fun e w' => e = .returned (.bool false) ∧ w = w' := by
  obtain ⟨r1, r2, r3, r4⟩ := umore_none hn
  go_enter Try.func59, Try.ntmps59
  go_wp2
  all_goals go_ret
  all_goals exact ⟨rfl, rfl⟩
theorem utf_follow_no (c l h : Int) (n : Nat) (hn : c < l ∨ h < c) (w : World) (g : Nat) (hg : Blk w g 72 (ucells ⟨n, l, h, false⟩)) :
    Calls Try.prog 60 #[.pointer (some ⟨g, 0, none⟩), .int .u8 c] w fun e w' => e = .returned (.bool false) ∧ w = w' := by
  obtain ⟨c0, c1, c2, c3, fz⟩ := ublk hg
  dsimp only at c0 c1 c2 c3
  clear fz
  by_cases hcl : c < l
  · go_enter Try.func60, Try.ntmps60
    go_wp2
    go_ret
    exact ⟨rfl, rfl⟩
  · have hch : h < c := by omega
    go_enter Try.func60, Try.ntmps60
    go_wp2
    go_ret
    exact ⟨rfl, rfl⟩
theorem utf_follow_yes (c l h : Int) (n : Nat) (h0 : ¬ c < l) (h1 : ¬ h < c) (hm : n < 100) (w : World) (g : Nat) (hg : Blk w g 72 (ucells ⟨n + 1, l, h, false⟩)) :
    Calls Try.prog 60 #[.pointer (some ⟨g, 0, none⟩), .int .u8 c] w fun e w' => e = .returned (.bool true) ∧ Blk w' g 72 (ucells ⟨n, 128, 191, false⟩) ∧ Only g w w' := by
  obtain ⟨c0, c1, c2, c3, fz⟩ := ublk hg
  dsimp only at c0 c1 c2 c3
  have f0 := fz 0
  have f1 := fz 1
  have f2 := fz 2
  have z : ((n + 1 : Nat) : Int) = (n : Int) + 1 := by simp
  rw [z] at c0
  clear fz z c3
  go_enter Try.func60, Try.ntmps60
  go_wp2
  go_ret
  exact ⟨rfl, ((hg.put 0 (.int .i64 n)).put 1 (.int .u8 128)).put 2 (.int .u8 191), (((Only.refl g w).put 0 _).put 1 _).put 2 _⟩
theorem utf_done (q : UQ) (w : World) (g : Nat) (hg : Blk w g 72 (ucells q)) :
    Calls Try.prog 42 #[.pointer (some ⟨g, 0, none⟩)] w fun e w' => e = .returned (.bool (udone q)) ∧ w = w' := by
  obtain ⟨n, l, h, wr⟩ := q
  obtain ⟨c0, c1, c2, c3, fz⟩ := ublk hg
  dsimp only at c0 c1 c2 c3
  clear fz c1 c2
  cases wr with
  | true =>
    go_enter Try.func42, Try.ntmps42
    go_wp2
    go_ret
    exact ⟨rfl, rfl⟩
  | false =>
    have e : udone ⟨n, l, h, false⟩ = ((n : Int) == 0) := by
      unfold udone
      cases n with
      | zero => rfl
      | succ n => simp; omega
    rw [e]
    go_enter Try.func42, Try.ntmps42
    go_wp2
    go_ret
    exact ⟨rfl, rfl⟩
theorem utf_done_nil (w : World) : Calls Try.prog 42 #[.pointer none] w fun e w' => e = .returned (.bool false) ∧ w = w' := by
  go_enter Try.func42, Try.ntmps42
  go_wp2
  go_ret
  exact ⟨rfl, rfl⟩
theorem utf_step_nil (c : Int) (w : World) : Calls Try.prog 49 #[.pointer none, .int .u8 c] w fun e w' => e = .returned (.bool false) ∧ w = w' := by
  go_enter Try.func49, Try.ntmps49
  go_wp2
  go_ret
  exact ⟨rfl, rfl⟩
theorem utf_step (q : UQ) (c : Int) (hn : q.left < 100) (w : World) (g : Nat) (hg : Blk w g 72 (ucells q)) :
    Calls Try.prog 49 #[.pointer (some ⟨g, 0, none⟩), .int .u8 c] w fun e w' => e = .returned (.bool (!(ustep q c).wr)) ∧ Blk w' g 72 (ucells (ustep q c)) ∧ Only g w w' := by
  obtain ⟨n, l, h, wr⟩ := q
  obtain ⟨c0, c1, c2, c3, fz⟩ := ublk hg
  dsimp only at c0 c1 c2 c3 hn
  have f3 := fz 3
  clear fz
  cases wr with
  | true =>
    have e : ustep ⟨n, l, h, true⟩ c = ⟨n, l, h, true⟩ := rfl
    rw [e]
    clear e
    go_enter Try.func49, Try.ntmps49
    go_wp2
    go_ret
    exact ⟨rfl, hg, Only.refl _ _⟩
  | false =>
    cases n with
    | zero =>
      cases hm : umore c with
      | none =>
        have e : ustep ⟨0, l, h, false⟩ c = ⟨0, l, h, true⟩ := by unfold ustep; rw [if_neg (by simp), if_pos rfl, hm]
        rw [e]
        clear e
        have z : ((0 : Nat) : Int) = 0 := rfl
        rw [z] at c0
        clear z c1 c2
        have HB := Lib.hid (utf_begin_none c hm)
        have HG := Lib.hid hg
        clear hg
        go_enter Try.func49, Try.ntmps49
        go_wp2_with (go_at_call 59; refine (HB.out _ _).mono ?_; rintro e w' ⟨rfl, rfl⟩)
        go_ret
        exact ⟨rfl, HG.out.put 3 (.bool true), (Only.refl _ _).put 3 _⟩
      | some n =>
        have e : ustep ⟨0, l, h, false⟩ c = ⟨n, ulo c, uhi c, false⟩ := by unfold ustep; rw [if_neg (by simp), if_pos rfl, hm]
        rw [e]
        clear e
        have z : ((0 : Nat) : Int) = 0 := rfl
        rw [z] at c0
        clear z c1 c2
        have HB := Lib.hid (utf_begin_some c n l h hm w g hg)
        clear hg
        go_enter Try.func49, Try.ntmps49
        go_wp2_with fail
        refine HB.out.mono ?_
        rintro e w1 ⟨rfl, b1, o1⟩
        have d3 : w1.cell? ⟨g, 3, none⟩ = some (.bool false) := b1.cell 3
        have e3 := b1.free 3
        have B1 := Lib.hid b1
        have O1 := Lib.hid o1
        clear b1 o1 HB c0 c3 f3
        go_wp2
        go_ret
        exact ⟨rfl, B1.out.put 3 (.bool false), O1.out.put 3 _⟩
    | succ n =>
      by_cases hm : c < l ∨ h < c
      · have e : ustep ⟨n + 1, l, h, false⟩ c = ⟨n + 1, l, h, true⟩ := by unfold ustep; rw [if_neg (by simp), if_neg (by simp), if_pos hm]
        rw [e]
        clear e c1 c2
        have z : (((n + 1 : Nat) : Int) == 0) = false := by rw [beq_eq_false_iff_ne]; omega
        generalize ((n + 1 : Nat) : Int) = N at *
        have HB := Lib.hid (utf_follow_no c l h (n + 1) hm w g hg)
        have HG := Lib.hid hg
        clear hg
        go_enter Try.func49, Try.ntmps49
        go_wp2_with (go_at_call 60; refine HB.out.mono ?_; rintro e w' ⟨rfl, rfl⟩)
        go_ret
        exact ⟨rfl, HG.out.put 3 (.bool true), (Only.refl _ _).put 3 _⟩
      · have e : ustep ⟨n + 1, l, h, false⟩ c = ⟨n, 128, 191, false⟩ := by unfold ustep; rw [if_neg (by simp), if_neg (by simp), if_neg hm]; rfl
        rw [e]
        clear e c1 c2
        have z : (((n + 1 : Nat) : Int) == 0) = false := by rw [beq_eq_false_iff_ne]; omega
        have HB := Lib.hid (utf_follow_yes c l h n (by omega) (by omega) (by omega) w g hg)
        generalize ((n + 1 : Nat) : Int) = N at *
        clear hg hm
        go_enter Try.func49, Try.ntmps49
        go_wp2_with fail
        refine HB.out.mono ?_
        rintro e w1 ⟨rfl, b1, o1⟩
        have d3 : w1.cell? ⟨g, 3, none⟩ = some (.bool false) := b1.cell 3
        have e3 := b1.free 3
        have B1 := Lib.hid b1
        have O1 := Lib.hid o1
        clear b1 o1 HB c0 c3 f3
        go_wp2
        go_ret
        exact ⟨rfl, B1.out.put 3 (.bool false), O1.out.put 3 _⟩
end Go.Proofs.Ytgbbgdjdomkohaa
