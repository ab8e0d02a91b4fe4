/- Package float: small functions. -/
import Derived.Test.YtmihoeholcaokaaRows
import Derived.Test.YtmihoeholcaokaaKAI
import Derived.Test.YtmihoeholcaokaaKAA
import Derived.Test.YtmihoeholcaokaaKAJ
import Derived.StillTailTactics
namespace Go.Proofs.Ytmihoeholcaokaa
open Go.RowKit

/-- The same as whole numbers, with the greatest exponent and the bias. -/
inductive Fz : Int → Int → Int → Int → Int → Nat → Nat → Nat → Prop
  | half : Fz 2 5 10 31 15 5 10 1050
  | single : Fz 4 8 23 255 127 8 23 925
  | double : Fz 8 11 52 2047 1023 11 52 0
theorem Fz.fm {W E F M B : Int} {e f O : Nat} (h : Fz W E F M B e f O) : Fm W e f O := by
  cases h <;> constructor
section
variable {W E F M B : Int} {ne nf O : Nat}

theorem float_eb (h : Fz W E F M B ne nf O) (w : World) : Calls Try.prog 78 #[.int .i64 W] w fun e w' => e = .returned (.int .i64 E) ∧ w = w' := by
  cases h <;> (go_enter Try.func78, Try.ntmps78; go_wp2; go_ret; exact ⟨rfl, rfl⟩)
theorem float_most (h : Fz W E F M B ne nf O) (w : World) : Calls Try.prog 64 #[.int .i64 W] w fun e w' => e = .returned (.int .i64 M) ∧ w = w' := by
  have h2 := Lib.hid (float_eb h)
  cases h <;>
  (go_enter Try.func64, Try.ntmps64
   go_wp2_with (go_at_call 78; refine (h2.out _).mono ?_; rintro e w' ⟨rfl, rfl⟩)
   go_ret
   exact ⟨rfl, rfl⟩)
theorem float_fb (h : Fz W E F M B ne nf O) (w : World) : Calls Try.prog 65 #[.int .i64 W] w fun e w' => e = .returned (.int .i64 F) ∧ w = w' := by
  have h2 := Lib.hid (float_eb h)
  cases h <;>
  (go_enter Try.func65, Try.ntmps65
   go_wp2_with (go_at_call 78; refine (h2.out _).mono ?_; rintro e w' ⟨rfl, rfl⟩)
   go_ret
   exact ⟨rfl, rfl⟩)
theorem and_one (a : Int) (h0 : 0 ≤ a) (h1 : a < 18446744073709551616) : bits .and .u64 a 1 = a % 2 := by
  rw [u64_and a 1 h0 h1 (by decide) (by decide), show (1 : Int).toNat = 1 from rfl, nat_mask1]
  omega
theorem and_mask (a : Int) (k : Nat) (hk : k ≤ 62) : bits .and .i64 a (2 ^ k - 1) = a % 2 ^ k := by
  have h0 : 1 ≤ 2 ^ k := Nat.two_pow_pos k
  have e : ((2 : Int) ^ k - 1) = ((2 ^ k - 1 : Nat) : Int) := by rw [Int.ofNat_sub h0]; simp
  have hlt : 2 ^ k ≤ 2 ^ 62 := Nat.pow_le_pow_right (by decide) hk
  show IntKind.i64.wrap ((BitVec.ofInt 64 a &&& BitVec.ofInt 64 (2 ^ k - 1)).toNat : Int) = _
  rw [e, BitVec.toNat_and, ofInt_u64 _ (by omega), BitVec.toNat_ofInt, Nat.and_two_pow_sub_one_eq_mod]
  have h1 : ((a % ((2 ^ 64 : Nat) : Int)).toNat : Int) = a % ((2 ^ 64 : Nat) : Int) := by omega
  have h2 : (((a % ((2 ^ 64 : Nat) : Int)).toNat % 2 ^ k : Nat) : Int) = a % 2 ^ k := by
    rw [Int.natCast_emod, h1]
    have : ((2 ^ k : Nat) : Int) = 2 ^ k := by simp
    rw [← this]
    exact Int.emod_emod_of_dvd _ (by exact_mod_cast Nat.pow_dvd_pow 2 (show k ≤ 64 by omega))
  rw [h2]
  have hp : (0 : Int) < 2 ^ k := Int.pow_pos (by decide)
  have h3 : 0 ≤ a % 2 ^ k := Int.emod_nonneg _ (by omega)
  have h4 : a % 2 ^ k < 2 ^ k := Int.emod_lt_of_pos _ hp
  have h5 : (2 : Int) ^ k ≤ 2 ^ 62 := by exact_mod_cast hlt
  rw [IntWalk.i64_in _ (by omega)]
def fcells (E F x : Nat) : Array Value := #[.int .u64 (fsg E F x), .int .i64 (fex E F x), .int .u64 (ffr F x)]
def parts (s e f : Int) : Array Value := #[.int .u64 s, .int .i64 e, .int .u64 f]
theorem size_parts : (Try.prog.info? 104).map (·.size) = some 3 := by kernel_rfl
theorem pblk {w : World} {g : Nat} {t : TypeId} {s e f : Int} (h : Blk w g t (parts s e f)) :
    w.cell? ⟨g, 0, none⟩ = some (.int .u64 s) ∧ w.cell? ⟨g, 1, none⟩ = some (.int .i64 e) ∧ w.cell? ⟨g, 2, none⟩ = some (.int .u64 f) ∧ (∀ i, w.frozen? ⟨g, i, none⟩ = false) :=
  ⟨h.cell 0, h.cell 1, h.cell 2, h.free⟩
set_option maxRecDepth 100000 in
set_option maxHeartbeats 1000000 in
theorem float_split (h : Fz W E F M B ne nf O) (x : Nat) (hx : x < 18446744073709551616) (w : World) :
    Calls Try.prog 58 #[.int .u64 x, .int .i64 W] w fun e w' => e = .returned (.agg (parts (fsg ne nf x) (fex ne nf x) (ffr nf x))) ∧ Below w.heap.size w w' := by
  have h1 := Lib.hid (float_fb h)
  have h2 := Lib.hid (float_most h)
  have x0 : (0 : Int) ≤ x := by omega
  have x1 : (x : Int) < 18446744073709551616 := by omega
  have R := fun (n : Int) => Right64 (x : Int) n x0 x1
  cases h
  · have R1 := Lib.hid (R 15)
    have R2 := Lib.hid (R 10)
    clear R
    have r1 := turned_range 64 x ((15 : Int) % 64).toNat (by decide) x0 x1
    have r2 := turned_range 64 x ((10 : Int) % 64).toNat (by decide) x0 x1
    have A1 : bits .and .u64 (turned 64 x ((15 : Int) % 64).toNat) 1 = (fsg 5 10 x : Int) := by
      rw [and_one _ r1.1 r1.2]; unfold turned fsg; simp <;> omega
    have A2 : bits .and .i64 (IntKind.i64.wrap (turned 64 x ((10 : Int) % 64).toNat)) 31 = (fex 5 10 x : Int) := by
      rw [show (31 : Int) = 2 ^ 5 - 1 from rfl, and_mask _ _ (by decide)]; unfold turned fex; simp [IntKind.wrap, IntKind.bits, IntKind.signed]; omega
    have A3 : bits .and .u64 x (IntKind.u64.wrap (IntKind.u64.wrap 1024 - 1)) = (ffr 10 x : Int) := by
      rw [show IntKind.u64.wrap (IntKind.u64.wrap 1024 - 1) = ((1023 : Nat) : Int) from rfl, bits_and_u64_nat x 1023 hx (by decide), nat_mask10]; rfl
    generalize turned 64 x ((15 : Int) % 64).toNat = t1 at *
    generalize turned 64 x ((10 : Int) % 64).toNat = t2 at *
    go_enter Try.func58, Try.ntmps58
    go_wp2_with (first | (go_at_call 65; refine (h1.out _).mono ?_; rintro e w' ⟨rfl, rfl⟩) | (go_at_call 64; refine (h2.out _).mono ?_; rintro e w' ⟨rfl, rfl⟩))
    have b0 : Blk (w.alloc (.cells (parts 0 0 0) 104)) w.heap.size 104 (parts 0 0 0) := Blk.fresh _ _ _
    have S : Below w.heap.size w (w.alloc (.cells (parts 0 0 0) 104)) := below_alloc _ _
    have hg : w.heap.size ≤ w.heap.size := Nat.le_refl _
    unfold parts at b0 S
    generalize w.alloc (.cells #[.int .u64 0, .int .i64 0, .int .u64 0] 104) = w1 at *
    generalize hgg : w.heap.size = g at *
    obtain ⟨c0, c1, c2, fz⟩ := pblk b0
    have f0 := fz 0
    have f1 := fz 1
    have f2 := fz 2
    have B0 := Lib.hid b0
    clear fz b0
    refine wp_region_still_tail 19 (by kernel_rfl) (by kernel_rfl) ?_
    simp only [List.take_succ_cons, List.take_zero, List.drop_succ_cons, List.drop_zero]
    repeat still_step
    still_call ((R1.out _).mono (fun _ _ h => ⟨h.1, h.2.symm⟩))
    repeat still_step
    still_call ((R2.out _).mono (fun _ _ h => ⟨h.1, h.2.symm⟩))
    repeat still_step
    still_call ((h2.out _).mono (fun _ _ h => ⟨h.1, h.2.symm⟩))
    repeat still_step
    refine wpStill_nil ?_
    clear A1 A2 A3 R1 R2 h1 h2 r1 r2
    go_wp2
    exact bodyPost_ret (results_blk rfl _ rfl (((B0.out.put 0 _).put 1 _).put 2 _) Try.underlying104 rfl size_parts) rfl ⟨rfl, by rw [hgg]; exact below_drawn (((S.setCell (Nat.le_refl _) _).setCell (Nat.le_refl _) _).setCell (Nat.le_refl _) _)⟩
  · have R1 := Lib.hid (R 31)
    have R2 := Lib.hid (R 23)
    clear R
    have r1 := turned_range 64 x ((31 : Int) % 64).toNat (by decide) x0 x1
    have r2 := turned_range 64 x ((23 : Int) % 64).toNat (by decide) x0 x1
    have A1 : bits .and .u64 (turned 64 x ((31 : Int) % 64).toNat) 1 = (fsg 8 23 x : Int) := by
      rw [and_one _ r1.1 r1.2]; unfold turned fsg; simp <;> omega
    have A2 : bits .and .i64 (IntKind.i64.wrap (turned 64 x ((23 : Int) % 64).toNat)) 255 = (fex 8 23 x : Int) := by
      rw [show (255 : Int) = 2 ^ 8 - 1 from rfl, and_mask _ _ (by decide)]; unfold turned fex; simp [IntKind.wrap, IntKind.bits, IntKind.signed]; omega
    have A3 : bits .and .u64 x (IntKind.u64.wrap (IntKind.u64.wrap 8388608 - 1)) = (ffr 23 x : Int) := by
      rw [show IntKind.u64.wrap (IntKind.u64.wrap 8388608 - 1) = ((8388607 : Nat) : Int) from rfl, bits_and_u64_nat x 8388607 hx (by decide), nat_mask23]; rfl
    generalize turned 64 x ((31 : Int) % 64).toNat = t1 at *
    generalize turned 64 x ((23 : Int) % 64).toNat = t2 at *
    go_enter Try.func58, Try.ntmps58
    go_wp2_with (first | (go_at_call 65; refine (h1.out _).mono ?_; rintro e w' ⟨rfl, rfl⟩) | (go_at_call 64; refine (h2.out _).mono ?_; rintro e w' ⟨rfl, rfl⟩))
    have b0 : Blk (w.alloc (.cells (parts 0 0 0) 104)) w.heap.size 104 (parts 0 0 0) := Blk.fresh _ _ _
    have S : Below w.heap.size w (w.alloc (.cells (parts 0 0 0) 104)) := below_alloc _ _
    have hg : w.heap.size ≤ w.heap.size := Nat.le_refl _
    unfold parts at b0 S
    generalize w.alloc (.cells #[.int .u64 0, .int .i64 0, .int .u64 0] 104) = w1 at *
    generalize hgg : w.heap.size = g at *
    obtain ⟨c0, c1, c2, fz⟩ := pblk b0
    have f0 := fz 0
    have f1 := fz 1
    have f2 := fz 2
    have B0 := Lib.hid b0
    clear fz b0
    refine wp_region_still_tail 19 (by kernel_rfl) (by kernel_rfl) ?_
    simp only [List.take_succ_cons, List.take_zero, List.drop_succ_cons, List.drop_zero]
    repeat still_step
    still_call ((R1.out _).mono (fun _ _ h => ⟨h.1, h.2.symm⟩))
    repeat still_step
    still_call ((R2.out _).mono (fun _ _ h => ⟨h.1, h.2.symm⟩))
    repeat still_step
    still_call ((h2.out _).mono (fun _ _ h => ⟨h.1, h.2.symm⟩))
    repeat still_step
    refine wpStill_nil ?_
    clear A1 A2 A3 R1 R2 h1 h2 r1 r2
    go_wp2
    exact bodyPost_ret (results_blk rfl _ rfl (((B0.out.put 0 _).put 1 _).put 2 _) Try.underlying104 rfl size_parts) rfl ⟨rfl, by rw [hgg]; exact below_drawn (((S.setCell (Nat.le_refl _) _).setCell (Nat.le_refl _) _).setCell (Nat.le_refl _) _)⟩
  · have R1 := Lib.hid (R 63)
    have R2 := Lib.hid (R 52)
    clear R
    have r1 := turned_range 64 x ((63 : Int) % 64).toNat (by decide) x0 x1
    have r2 := turned_range 64 x ((52 : Int) % 64).toNat (by decide) x0 x1
    have A1 : bits .and .u64 (turned 64 x ((63 : Int) % 64).toNat) 1 = (fsg 11 52 x : Int) := by
      rw [and_one _ r1.1 r1.2]; unfold turned fsg; simp <;> omega
    have A2 : bits .and .i64 (IntKind.i64.wrap (turned 64 x ((52 : Int) % 64).toNat)) 2047 = (fex 11 52 x : Int) := by
      rw [show (2047 : Int) = 2 ^ 11 - 1 from rfl, and_mask _ _ (by decide)]; unfold turned fex; simp [IntKind.wrap, IntKind.bits, IntKind.signed]; omega
    have A3 : bits .and .u64 x (IntKind.u64.wrap (IntKind.u64.wrap 4503599627370496 - 1)) = (ffr 52 x : Int) := by
      rw [show IntKind.u64.wrap (IntKind.u64.wrap 4503599627370496 - 1) = ((4503599627370495 : Nat) : Int) from rfl, bits_and_u64_nat x 4503599627370495 hx (by decide), nat_mask52]; rfl
    generalize turned 64 x ((63 : Int) % 64).toNat = t1 at *
    generalize turned 64 x ((52 : Int) % 64).toNat = t2 at *
    go_enter Try.func58, Try.ntmps58
    go_wp2_with (first | (go_at_call 65; refine (h1.out _).mono ?_; rintro e w' ⟨rfl, rfl⟩) | (go_at_call 64; refine (h2.out _).mono ?_; rintro e w' ⟨rfl, rfl⟩))
    have b0 : Blk (w.alloc (.cells (parts 0 0 0) 104)) w.heap.size 104 (parts 0 0 0) := Blk.fresh _ _ _
    have S : Below w.heap.size w (w.alloc (.cells (parts 0 0 0) 104)) := below_alloc _ _
    have hg : w.heap.size ≤ w.heap.size := Nat.le_refl _
    unfold parts at b0 S
    generalize w.alloc (.cells #[.int .u64 0, .int .i64 0, .int .u64 0] 104) = w1 at *
    generalize hgg : w.heap.size = g at *
    obtain ⟨c0, c1, c2, fz⟩ := pblk b0
    have f0 := fz 0
    have f1 := fz 1
    have f2 := fz 2
    have B0 := Lib.hid b0
    clear fz b0
    refine wp_region_still_tail 19 (by kernel_rfl) (by kernel_rfl) ?_
    simp only [List.take_succ_cons, List.take_zero, List.drop_succ_cons, List.drop_zero]
    repeat still_step
    still_call ((R1.out _).mono (fun _ _ h => ⟨h.1, h.2.symm⟩))
    repeat still_step
    still_call ((R2.out _).mono (fun _ _ h => ⟨h.1, h.2.symm⟩))
    repeat still_step
    still_call ((h2.out _).mono (fun _ _ h => ⟨h.1, h.2.symm⟩))
    repeat still_step
    refine wpStill_nil ?_
    clear A1 A2 A3 R1 R2 h1 h2 r1 r2
    go_wp2
    exact bodyPost_ret (results_blk rfl _ rfl (((B0.out.put 0 _).put 1 _).put 2 _) Try.underlying104 rfl size_parts) rfl ⟨rfl, by rw [hgg]; exact below_drawn (((S.setCell (Nat.le_refl _) _).setCell (Nat.le_refl _) _).setCell (Nat.le_refl _) _)⟩
end
end Go.Proofs.Ytmihoeholcaokaa
