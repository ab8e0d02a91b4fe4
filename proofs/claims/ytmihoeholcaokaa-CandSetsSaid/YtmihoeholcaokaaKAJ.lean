/- Plain numbers: a number of B bits turned to the right by k. -/
import Derived.Laws.BitsAllLaws
import Derived.Laws.Shifts
import Derived.Test.YtmihoeholcaokaaRows
import Derived.Test.YtmihoeholcaokaaKAA
import Derived.RegionTactic
import Derived.Deep.LoopGhost
import Derived.Deep.Cut
namespace Go.Proofs.Ytmihoeholcaokaa

/-- x of B bits, turned to the right by k (0 to B - 1). -/
def turned (B : Nat) (x : Int) (k : Nat) : Int := x / 2 ^ k + x % 2 ^ k * 2 ^ (B - k)

theorem or_add (a b : Int) (n : Nat) (ha : 0 ≤ a) (ha' : a < 2 ^ n) (hb : 0 ≤ b) : ((a.toNat ||| (b * 2 ^ n).toNat : Nat) : Int) = a + b * 2 ^ n := by
  obtain ⟨A, rfl⟩ := Int.eq_ofNat_of_zero_le ha
  obtain ⟨C, rfl⟩ := Int.eq_ofNat_of_zero_le hb
  have e : ((C : Int) * 2 ^ n).toNat = C * 2 ^ n := by
    have : ((C : Int) * 2 ^ n) = ((C * 2 ^ n : Nat) : Int) := by simp
    rw [this, Int.toNat_natCast]
  rw [e, Int.toNat_natCast]
  have hA : A < 2 ^ n := by exact_mod_cast ha'
  rw [Nat.or_comm, Nat.mul_comm, ← Nat.two_pow_add_eq_or_of_lt hA]
  push_cast
  rw [Int.mul_comm, Int.add_comm]

theorem shl_mod (B : Nat) (x : Int) (k : Nat) (hk : k ≤ B) : x * 2 ^ (B - k) % 2 ^ B = x % 2 ^ k * 2 ^ (B - k) := by
  have e : (2 : Int) ^ B = 2 ^ k * 2 ^ (B - k) := by rw [← Int.pow_add]; congr 1; omega
  rw [e, Int.mul_comm x, Int.mul_comm (2 ^ k), Int.mul_emod_mul_of_pos _ _ (Int.pow_pos (by decide)), Int.mul_comm]

theorem turned_range (B : Nat) (x : Int) (k : Nat) (hk : k ≤ B) (h0 : 0 ≤ x) (h1 : x < 2 ^ B) : 0 ≤ turned B x k ∧ turned B x k < 2 ^ B := by
  have hp : (0 : Int) < 2 ^ k := Int.pow_pos (by decide)
  have hq : (0 : Int) < 2 ^ (B - k) := Int.pow_pos (by decide)
  have e : (2 : Int) ^ B = 2 ^ k * 2 ^ (B - k) := by rw [← Int.pow_add]; congr 1; omega
  have hd : x / 2 ^ k < 2 ^ (B - k) := Int.ediv_lt_of_lt_mul hp (by rw [Int.mul_comm, ← e]; exact h1)
  have hd0 : 0 ≤ x / 2 ^ k := Int.ediv_nonneg h0 (Int.le_of_lt hp)
  have hm0 : 0 ≤ x % 2 ^ k := Int.emod_nonneg _ (by omega)
  have hm1 : x % 2 ^ k < 2 ^ k := Int.emod_lt_of_pos _ hp
  unfold turned
  refine ⟨Int.add_nonneg hd0 (Int.mul_nonneg hm0 (Int.le_of_lt hq)), ?_⟩
  have hle : x % 2 ^ k * 2 ^ (B - k) ≤ (2 ^ k - 1) * 2 ^ (B - k) := Int.mul_le_mul_of_nonneg_right (by omega) (Int.le_of_lt hq)
  rw [Int.sub_mul, ← e] at hle
  omega

/-- What the code's last line makes is the turned number. -/
theorem turned_or (B : Nat) (x : Int) (k : Nat) (hk : k ≤ B) (h0 : 0 ≤ x) (h1 : x < 2 ^ B) :
    (((x / 2 ^ k).toNat ||| (x * 2 ^ (B - k) % 2 ^ B).toNat : Nat) : Int) = turned B x k := by
  have hp : (0 : Int) < 2 ^ k := Int.pow_pos (by decide)
  have e : (2 : Int) ^ B = 2 ^ k * 2 ^ (B - k) := by rw [← Int.pow_add]; congr 1; omega
  rw [shl_mod B x k hk]
  exact or_add _ _ _ (Int.ediv_nonneg h0 (Int.le_of_lt hp)) (Int.ediv_lt_of_lt_mul hp (by rw [Int.mul_comm, ← e]; exact h1)) (Int.emod_nonneg _ (by omega))

theorem turned_zero (B : Nat) (x : Int) : turned B x 0 = x := by
  simp [turned, Int.emod_one]

/-- Turned back it is as it was. -/
theorem turned_back (B : Nat) (x : Int) (k : Nat) (hk : k ≤ B) (h0 : 0 ≤ x) (h1 : x < 2 ^ B) : turned B (turned B x k) (B - k) = x := by
  have hp : (0 : Int) < 2 ^ k := Int.pow_pos (by decide)
  have hq : (0 : Int) < 2 ^ (B - k) := Int.pow_pos (by decide)
  have e : (2 : Int) ^ B = 2 ^ k * 2 ^ (B - k) := by rw [← Int.pow_add]; congr 1; omega
  have hd : x / 2 ^ k < 2 ^ (B - k) := Int.ediv_lt_of_lt_mul hp (by rw [Int.mul_comm, ← e]; exact h1)
  have hd0 : 0 ≤ x / 2 ^ k := Int.ediv_nonneg h0 (Int.le_of_lt hp)
  show (x / 2 ^ k + x % 2 ^ k * 2 ^ (B - k)) / 2 ^ (B - k) + (x / 2 ^ k + x % 2 ^ k * 2 ^ (B - k)) % 2 ^ (B - k) * 2 ^ (B - (B - k)) = x
  rw [Int.add_mul_ediv_right _ _ (by omega), Int.ediv_eq_zero_of_lt hd0 hd, Int.add_mul_emod_self_right, Int.emod_eq_of_lt hd0 hd]
  have e2 : B - (B - k) = k := by omega
  rw [e2, Int.zero_add]
  have := Int.emod_add_mul_ediv x (2 ^ k)
  rw [Int.mul_comm] at this
  omega
end Go.Proofs.Ytmihoeholcaokaa

/- The contracts of the turning functions. -/
namespace Go.Proofs.Ytmihoeholcaokaa
open Go.ChangeShapes Go.WideShapes Go.ChangeAt Go.RowKit

theorem wrap_rem32 (n : Int) : (IntKind.u64.wrap n).tmod 32 = ((n % 32).toNat : Int) := by
  have := wrap_u64_nonneg n
  rw [Int.tmod_eq_emod_of_nonneg this, IntKind.wrap_u64]; omega
theorem wrap_rem64 (n : Int) : (IntKind.u64.wrap n).tmod 64 = ((n % 64).toNat : Int) := by
  have := wrap_u64_nonneg n
  rw [Int.tmod_eq_emod_of_nonneg this, IntKind.wrap_u64]; omega
theorem or_turned32 (x : Int) (k : Nat) (hk : k ≤ 32) (h0 : 0 ≤ x) (h1 : x < 4294967296) :
    bits BinOp.or IntKind.u32 (x / 2 ^ k) (x * 2 ^ (32 - k) % 4294967296) = turned 32 x k := by
  have hp : (0 : Int) < 2 ^ k := Int.pow_pos (by decide)
  have a0 : 0 ≤ x / 2 ^ k := Int.ediv_nonneg h0 (Int.le_of_lt hp)
  have a1 : x / 2 ^ k ≤ x := Int.ediv_le_self _ h0
  rw [u32_or _ _ a0 (by omega) (by omega) (by omega)]
  exact turned_or 32 x k hk h0 h1
theorem or_turned64 (x : Int) (k : Nat) (hk : k ≤ 64) (h0 : 0 ≤ x) (h1 : x < 18446744073709551616) :
    bits BinOp.or IntKind.u64 (x / 2 ^ k) (x * 2 ^ (64 - k) % 18446744073709551616) = turned 64 x k := by
  have hp : (0 : Int) < 2 ^ k := Int.pow_pos (by decide)
  have a0 : 0 ≤ x / 2 ^ k := Int.ediv_nonneg h0 (Int.le_of_lt hp)
  have a1 : x / 2 ^ k ≤ x := Int.ediv_le_self _ h0
  rw [u64_or _ _ a0 (by omega) (by omega) (by omega)]
  exact turned_or 64 x k hk h0 h1

theorem right64 (x n : Int) (h0 : 0 ≤ x) (h1 : x < 18446744073709551616) (w : World) :
    Calls Try.prog 79 #[.int .u64 x, .int .i64 n, .int .i64 64] w fun e w' => e = .returned (.int .u64 (turned 64 x (n % 64).toNat)) ∧ w = w' := by
  have hk := wrap_rem64 n
  have hlt : (n % 64).toNat < 64 := by omega
  generalize (n % 64).toNat = k at *
  have H := Lib.hid (or_turned64 x k (by omega) h0 h1)
  go_enter Try.func79, Try.ntmps79
  go_wp2
  go_ret
  exact ⟨ret_num H.out, rfl⟩
theorem Right64 (x n : Int) (h0 : 0 ≤ x) (h1 : x < 18446744073709551616) (w : World) :
    Calls Try.prog 66 #[.int .u64 x, .int .i64 n] w fun e w' => e = .returned (.int .u64 (turned 64 x (n % 64).toNat)) ∧ w = w' := by
  go_enter Try.func66, Try.ntmps66
  go_wp2_with (go_at_call 79; refine (right64 _ _ h0 h1 _).mono ?_; rintro e w' ⟨rfl, rfl⟩)
  go_ret
  exact ⟨rfl, rfl⟩

theorem ref_rem32 (n : Int) : ((n.tmod 32) + 32).tmod 32 = ((n % 32).toNat : Int) ∧ -32 < n.tmod 32 ∧ n.tmod 32 < 32 := by
  have h := Int.tmod_eq_emod (a := n) (b := 32)
  have hn : ((32 : Int).natAbs : Int) = 32 := rfl
  have hs : -32 < n.tmod 32 ∧ n.tmod 32 < 32 := by split at h <;> omega
  refine ⟨?_, hs⟩
  rw [Int.tmod_eq_emod_of_nonneg (by omega : 0 ≤ n.tmod 32 + 32)]
  split at h <;> omega
theorem back_num32 (m k : Int) (x : Int) (h0 : 0 ≤ x) (h1 : x < 4294967296) (hk : k = -m) : turned 32 (turned 32 x (m % 32).toNat) (k % 32).toNat = x := by
  subst hk
  by_cases hz : m % 32 = 0
  · have e1 : (m % 32).toNat = 0 := by omega
    have e2 : (-m % 32).toNat = 0 := by omega
    rw [e1, e2, turned_zero, turned_zero]
  · have e2 : (-m % 32).toNat = 32 - (m % 32).toNat := by omega
    rw [e2]
    exact turned_back 32 x _ (by omega) h0 h1
theorem ref_rem64 (n : Int) : ((n.tmod 64) + 64).tmod 64 = ((n % 64).toNat : Int) ∧ -64 < n.tmod 64 ∧ n.tmod 64 < 64 := by
  have h := Int.tmod_eq_emod (a := n) (b := 64)
  have hn : ((64 : Int).natAbs : Int) = 64 := rfl
  have hs : -64 < n.tmod 64 ∧ n.tmod 64 < 64 := by split at h <;> omega
  refine ⟨?_, hs⟩
  rw [Int.tmod_eq_emod_of_nonneg (by omega : 0 ≤ n.tmod 64 + 64)]
  split at h <;> omega
theorem back_num64 (m k : Int) (x : Int) (h0 : 0 ≤ x) (h1 : x < 18446744073709551616) (hk : k = -m) : turned 64 (turned 64 x (m % 64).toNat) (k % 64).toNat = x := by
  subst hk
  by_cases hz : m % 64 = 0
  · have e1 : (m % 64).toNat = 0 := by omega
    have e2 : (-m % 64).toNat = 0 := by omega
    rw [e1, e2, turned_zero, turned_zero]
  · have e2 : (-m % 64).toNat = 64 - (m % 64).toNat := by omega
    rw [e2]
    exact turned_back 64 x _ (by omega) h0 h1
/-- Turned back it is as it was. -/
theorem Back64 (x m : Int) (h0 : 0 ≤ x) (h1 : x < 18446744073709551616) (w : World) :
    Calls Try.prog 66 #[.int .u64 (turned 64 x (m % 64).toNat), .int .i64 (-m)] w fun e w' => e = .returned (.int .u64 x) ∧ w = w' := by
  have hr := turned_range 64 x (m % 64).toNat (by omega) h0 h1
  refine (Right64 _ _ hr.1 hr.2 w).mono ?_
  rintro e w' ⟨rfl, rfl⟩
  exact ⟨ret_num (back_num64 m _ x h0 h1 rfl), rfl⟩
end Go.Proofs.Ytmihoeholcaokaa

/- A loop in a great frame: what the body may write stands behind ONE function letter, not behind a letter each. -/
namespace Go.Proofs.Ytmihoeholcaokaa
open Go.RowKit

/-- Slot k of a frame. -/
def nth : List Value → Nat → Value
  | [], _ => undef
  | x :: _, 0 => x
  | _ :: xs, k + 1 => nth xs k
/-- The frame with the marked slots, from k on, read from t. -/
def mask (t : Nat → Value) : Nat → List Bool → List Value → List Value
  | _, _, [] => []
  | _, [], x :: xs => x :: xs
  | k, true :: bs, _ :: xs => t k :: mask t (k + 1) bs xs
  | k, false :: bs, x :: xs => x :: mask t (k + 1) bs xs
/-- The frame's slots that aren't marked. -/
def keep : List Bool → List Value → List Value
  | _, [] => []
  | [], x :: xs => x :: xs
  | true :: bs, _ :: xs => undef :: keep bs xs
  | false :: bs, x :: xs => x :: keep bs xs
theorem mask_keep (T : Nat → Value) : ∀ (bs : List Bool) (k : Nat) (l l' : List Value), (∀ i, i < l'.length → T (k + i) = nth l' i) → keep bs l' = keep bs l → l' = mask T k bs l
  | bs, k, [], l', _, h => by
    cases l' with
    | nil => cases bs <;> rfl
    | cons y ys =>
      cases bs with
      | nil => simp [keep] at h
      | cons b bs => cases b <;> simp [keep] at h
  | [], k, x :: xs, l', _, h => by
    cases l' with
    | nil => simp [keep] at h
    | cons y ys => simpa [keep, mask] using h
  | b :: bs, k, x :: xs, l', hT, h => by
    cases l' with
    | nil => cases b <;> simp [keep] at h
    | cons y ys =>
      have hT' : ∀ i, i < ys.length → T (k + 1 + i) = nth ys i := fun i hi => by
        have := hT (i + 1) (by simp; omega)
        rw [show k + 1 + i = k + (i + 1) by omega, this]
        rfl
      have h0 : T k = y := hT 0 (by simp)
      cases b with
      | true =>
        simp only [keep, List.cons.injEq, true_and] at h
        simp only [mask, h0, List.cons.injEq, true_and]
        exact mask_keep T bs (k + 1) xs ys hT' h
      | false =>
        simp only [keep, List.cons.injEq] at h
        simp only [mask, h.1, List.cons.injEq, true_and]
        exact mask_keep T bs (k + 1) xs ys hT' h.2
/-- A LOOP: the relation bears a number that each round lowers; it speaks of the frame's slots by their numbers. -/
theorem wp_loop_mask {P : Program} {Q : Exit → Act → World → Prop} {w : World} {c : Code} {l : List Value} {ds : List Deferred} (bs : List Bool) (I : Nat → (Nat → Value) → World → Prop) (n0 : Nat) (h0 : I n0 (nth l) w)
    (round : ∀ n t w', I n t w' → ∀ K : Act → World → Prop, Hid (∀ (l' : List Value) (w'' : World) (n' : Nat), n' < n → keep bs l' = keep bs l → I n' (nth l') w'' → K ⟨l'.toArray, ds⟩ w'') → c.wp P (Exit.then K Q) ⟨(mask t 0 bs l).toArray, ds⟩ w') :
    (Code.loop c).wp P Q ⟨l.toArray, ds⟩ w := by
  have hl : l = mask (nth l) 0 bs l := mask_keep (nth l) bs 0 l l (fun i _ => by rw [Nat.zero_add]) rfl
  refine wp_loop_ghost (fun n a w => ∃ t, I n t w ∧ a = ⟨(mask t 0 bs l).toArray, ds⟩) n0 ⟨nth l, h0, by rw [← hl]⟩ ?_
  rintro n a w' ⟨t, hI, rfl⟩
  refine round n t w' hI _ ?_
  intro l' w'' n' hn hk hI'
  exact ⟨n', hn, nth l', hI', by rw [← mask_keep (nth l') bs 0 l l' (fun i _ => by rw [Nat.zero_add]) hk]⟩
/-- THE WAYS THROUGH AN 'if' MEET AGAIN: what the ways may write stands behind one function letter. -/
theorem wp_cut_mask {P : Program} {s : Code} {K : Act → World → Prop} {Q : Exit → Act → World → Prop} {l : List Value} {ds : List Deferred} {w : World} (bs : List Bool) (R : (Nat → Value) → World → Prop)
    (first : ∀ K' : Act → World → Prop, Hid (∀ (l' : List Value) (w' : World), keep bs l' = keep bs l → R (nth l') w' → K' ⟨l'.toArray, ds⟩ w') → s.wp P (Exit.then K' Q) ⟨l.toArray, ds⟩ w)
    (rest : ∀ (t : Nat → Value) (w' : World), R t w' → K ⟨(mask t 0 bs l).toArray, ds⟩ w') : s.wp P (Exit.then K Q) ⟨l.toArray, ds⟩ w := by
  refine wp_cut (fun a w' => ∃ t, a = ⟨(mask t 0 bs l).toArray, ds⟩ ∧ R t w') (fun a' w' h => ?_) (fun J K' hJ hK => ?_)
  · obtain ⟨t, rfl, hR⟩ := h
    exact rest t w' hR
  · refine first K' (fun l' w' hk hR => hK _ _ (hJ _ _ ⟨nth l', ?_, hR⟩))
    rw [← mask_keep (nth l') bs 0 l l' (fun i _ => by rw [Nat.zero_add]) hk]
/-- The world under one name. -/
theorem gen_world {P : Program} {c : Code} {Q : Exit → Act → World → Prop} {a : Act} {w : World} (h : ∀ wd, wd = w → c.wp P Q a wd) : c.wp P Q a w := h w rfl
end Go.Proofs.Ytmihoeholcaokaa
