
/- The document's answer: is a cube within? -/
import Derived.Test.YtnankgophbjioaaDoorRows
import Derived.Test.YtnankgophbjioaaDoorBlk
import Derived.Test.YtnankgophbjioaaDoorVal
import Derived.StillTailTactics
import Derived.IntWalk
namespace Go.Proofs.YtnankgophbjioaaDoor
open Go.RowKit

/-- The digits of a number below 2^64. -/
def dig2 (a : Int) : List Int := [a % 4294967296, a / 4294967296]
theorem and32 (x : Int) (h0 : 0 ≤ x) (h1 : x < 18446744073709551616) : bits BinOp.and IntKind.u64 x 4294967295 = x % 4294967296 := by
  rw [u64_and _ _ h0 (by omega) (by decide) (by decide)]
  obtain ⟨n, rfl⟩ := Int.eq_ofNat_of_zero_le h0
  show ((n &&& (2 ^ 32 - 1) : Nat) : Int) = _
  rw [Nat.and_two_pow_sub_one_eq_mod]
  omega
theorem val_dig2 (a : Int) : val (dig2 a) = a := by
  simp only [dig2, val]; omega
theorem mul_lt (x y : Int) (h0 : 0 ≤ x) (h1 : x ≤ 4294967295) (k0 : 0 ≤ y) (k1 : y ≤ 4294967295) : 0 ≤ x * y ∧ x * y < 18446744073709551616 :=
  ⟨Int.mul_nonneg h0 k0, by have := Int.mul_le_mul h1 k1 k0 (by decide : (0 : Int) ≤ 4294967295); omega⟩
theorem pow_le' (a M : Int) (h0 : 0 ≤ a) (h1 : a ≤ M) : ∀ t : Nat, 0 ≤ a ^ t ∧ a ^ t ≤ M ^ t
  | 0 => by simp
  | t + 1 => by
    have ih := pow_le' a M h0 h1 t
    rw [Int.pow_succ, Int.pow_succ]
    exact ⟨Int.mul_nonneg ih.1 h0, Int.mul_le_mul ih.2 h1 h0 (Int.le_trans ih.1 ih.2)⟩
theorem pow_small (a : Int) (h0 : 0 ≤ a) (h1 : a < 34359738368) (t : Nat) (ht : t ≤ 2) : a ^ t < B32 ^ 5 := by
  have h := (pow_le' a 34359738368 h0 (by omega) t).2
  refine Int.lt_of_le_of_lt h ?_
  rcases t with _ | _ | _ | t
  · decide
  · decide
  · decide
  · omega
theorem pow_cube (a : Int) (h0 : 0 ≤ a) (h1 : a < 34359738368) (t : Nat) (ht : t ≤ 3) : a ^ t < B32 ^ 4 := by
  have h := (pow_le' a 34359738368 h0 (by omega) t).2
  refine Int.lt_of_le_of_lt h ?_
  rcases t with _ | _ | _ | _ | t
  · decide
  · decide
  · decide
  · decide
  · omega
theorem B32_le (i j : Nat) (h : i ≤ j) : B32 ^ i ≤ B32 ^ j := by
  have : B32 ^ j = B32 ^ i * B32 ^ (j - i) := by rw [← Int.pow_add]; congr 1; omega
  rw [this]
  have h1 : (0 : Int) < B32 ^ i := Int.pow_pos (by decide)
  have h2 : (0 : Int) < B32 ^ (j - i) := Int.pow_pos (by decide)
  have := Int.mul_le_mul_of_nonneg_left (show (1 : Int) ≤ B32 ^ (j - i) by omega) (by omega : 0 ≤ B32 ^ i)
  omega
theorem make7 (w : World) : (Instr.makeSlice 41 (.int .i64 7) (.int .i64 7)).run Tryd.prog w = .ok (.slice (some ⟨w.heap.size, 0, none⟩) 7 7) (w.alloc (.cells (nums .u64 [0, 0, 0, 0, 0, 0, 0]) 33)) := by kernel_rfl

/-- What the products of the first i digits, and j of the next one's, come to. -/
theorem prod_step (O : List Int) (i j : Nat) (V pr : Int) (hl : O.length = 7) (hij : i + j + 1 < 7)
    (hv : val O = V) :
    val ((O.set (i + j) (O.getD (i + j) 0 + pr % 4294967296)).set (i + j + 1) ((O.set (i + j) (O.getD (i + j) 0 + pr % 4294967296)).getD (i + j + 1) 0 + pr / 4294967296)) = V + B32 ^ (i + j) * pr := by
  rw [val_set _ _ _ (by rw [List.length_set]; omega), val_set _ _ _ (by omega), hv, Int.pow_succ, Int.mul_assoc]
  have e : B32 * (pr / 4294967296) + pr % 4294967296 = pr := by unfold B32; omega
  have e2 : B32 ^ (i + j) * pr = B32 ^ (i + j) * (B32 * (pr / 4294967296)) + B32 ^ (i + j) * (pr % 4294967296) := by rw [← Int.mul_add, e]
  rw [e2]; omega
theorem carry_step (O : List Int) (i : Nat) (hl : O.length = 7) (hi : i < 6) :
    val ((O.set (i + 1) (O.getD (i + 1) 0 + O.getD i 0 / 4294967296)).set i (O.getD i 0 % 4294967296)) = val O := by
  have e0 : (O.set (i + 1) (O.getD (i + 1) 0 + O.getD i 0 / 4294967296)).getD i 0 = O.getD i 0 := by rw [getD_set', if_neg (by omega)]
  have e1 : O.getD i 0 % 4294967296 = (O.set (i + 1) (O.getD (i + 1) 0 + O.getD i 0 / 4294967296)).getD i 0 + (O.getD i 0 % 4294967296 - O.getD i 0) := by rw [e0]; omega
  rw [e1, val_set _ _ _ (by rw [List.length_set]; omega), val_set _ _ _ (by omega), Int.pow_succ, Int.mul_assoc]
  have e2 : B32 * (O.getD i 0 / 4294967296) + (O.getD i 0 % 4294967296 - O.getD i 0) = 0 := by unfold B32; omega
  have e3 : B32 ^ i * (B32 * (O.getD i 0 / 4294967296)) + B32 ^ i * (O.getD i 0 % 4294967296 - O.getD i 0) = 0 := by rw [← Int.mul_add, e2, Int.mul_zero]
  omega
set_option maxRecDepth 100000 in
set_option maxHeartbeats 2000000 in
theorem ref_within (w : World) (a p : Int) (ha : 0 ≤ a) (ha1 : a < 34359738368) (hp : 0 ≤ p) (hp1 : p < 512) :
    Calls Tryd.prog 21 #[.int .u64 a, .int .u64 p] w fun e w' => e = .returned (.bool (decide (a * a * a ≤ p * 79228162514264337593543950336))) ∧ Below w.heap.size w w' := by
  have HM := make7
  have hand := and32 a ha (by omega)
  have hX : nums .u64 (dig2 a) = #[.int .u64 (a % 4294967296), .int .u64 (a / 4294967296)] := rfl
  have HX := Lib.hid hX
  clear hX
  go_enter Tryd.func21, Tryd.ntmps21
  go_wp2_with fail
  go_loopw [5, 7] (fun d t wr => ∃ (k g : Nat) (D : List Int), k ≤ 3 ∧ t = .int .i64 k ∧ d = .slice (some ⟨g, 0, none⟩) 7 7 ∧ D.length = 7 ∧ Upto D 4294967295 ∧ val D = a ^ k ∧ Blk wr g 33 (nums .u64 D) ∧ Blk wr (w.heap.size + 1) 33 (nums .u64 (dig2 a)) ∧ Below w.heap.size w wr) (fun _ t _ => 3 - (intOf t).toNat)
  case atStart => exact ⟨0, w.heap.size, [1, 0, 0, 0, 0, 0, 0], by decide, rfl, rfl, rfl, by
      intro i
      rcases i with _ | _ | _ | _ | _ | _ | _ | i <;> simp, by simp [val], (Blk.fresh w _ _).alloc _, by rw [HX.out]; exact Blk.freshAt _ _ _ _ (by simp), ((Below.refl _ _).alloc (Nat.le_refl _) _).alloc (by simp) _⟩
  case round =>
    obtain ⟨t, g, D, ht, rfl, rfl, hD7, hDu, hDv, bD, bX, hb⟩ := hrel
    by_cases hlt : t < 3
    · have hX0 : 0 ≤ a % 4294967296 ∧ a % 4294967296 ≤ 4294967295 := by omega
      have hX1 : 0 ≤ a / 4294967296 ∧ a / 4294967296 ≤ 4294967295 := by omega
      clear hand
      go_wp2_with fail
      have bO : Blk (wr.alloc (.cells (nums .u64 [0, 0, 0, 0, 0, 0, 0]) 33)) wr.heap.size 33 (nums .u64 [0, 0, 0, 0, 0, 0, 0]) := Blk.fresh _ _ _
      have bD1 := bD.alloc (.cells (nums .u64 [0, 0, 0, 0, 0, 0, 0]) 33)
      have bX1 := bX.alloc (.cells (nums .u64 [0, 0, 0, 0, 0, 0, 0]) 33)
      have hb1 := hb.alloc hb.size (.cells (nums .u64 [0, 0, 0, 0, 0, 0, 0]) 33)
      have gD := bD.lt
      have gX := bX.lt
      have gB := hb.size
      generalize wr.alloc (.cells (nums .u64 [0, 0, 0, 0, 0, 0, 0]) 33) = w1 at *
      generalize wr.heap.size = go at *
      clear bD bX hb
      go_loopw [9] (fun i w2 => ∃ (k : Nat) (O : List Int), k ≤ 5 ∧ i = .int .i64 k ∧ O.length = 7 ∧ Upto O (2 * k * 4294967296) ∧ val O = val (D.take k) * a ∧ Blk w2 go 33 (nums .u64 O) ∧ Blk w2 g 33 (nums .u64 D) ∧ Blk w2 (w.heap.size + 1) 33 (nums .u64 (dig2 a)) ∧ Below w.heap.size w w2) (fun i _ => 5 - (intOf i).toNat)
      case atStart => exact ⟨0, [0, 0, 0, 0, 0, 0, 0], by decide, rfl, rfl, by
        intro i
        rcases i with _ | _ | _ | _ | _ | _ | _ | i <;> simp, by simp [val], bO, bD1, bX1, hb1⟩
      case round =>
        obtain ⟨i, O, hi, rfl, hO7, hOu, hOv, bO, bD, bX, hb⟩ := hrel
        by_cases hli : i < 5
        · go_wp2_with fail
          go_loopw [10] (fun j w3 => ∃ (k : Nat) (O : List Int), k ≤ 2 ∧ j = .int .i64 k ∧ O.length = 7 ∧ Upto O ((2 * i + k) * 4294967296) ∧ val O = val (D.take i) * a + B32 ^ i * D.getD i 0 * val ((dig2 a).take k) ∧ Blk w3 go 33 (nums .u64 O) ∧ Blk w3 g 33 (nums .u64 D) ∧ Blk w3 (w.heap.size + 1) 33 (nums .u64 (dig2 a)) ∧ Below w.heap.size w w3) (fun j _ => 2 - (intOf j).toNat)
          case atStart => exact ⟨0, O, by decide, rfl, hO7, by simpa using hOu, by rw [hOv]; simp [val], bO, bD, bX, hb⟩
          case round =>
            clear bO bD bX hb hOv hOu hO7
            obtain ⟨j, O, hj, rfl, hO7, hOu, hOv, bO, bD, bX, hb⟩ := hrel
            by_cases hlj : j < 2
            · have cD : wr.cell? ⟨g, i, none⟩ = _ := (bD.cell i).trans (nums_get .u64 D i (by omega))
              have cX : wr.cell? ⟨w.heap.size + 1, j, none⟩ = _ := (bX.cell j).trans (nums_get .u64 (dig2 a) j (by simp [dig2]; omega))
              have dD := hDu i
              have xX : 0 ≤ (dig2 a).getD j 0 ∧ (dig2 a).getD j 0 ≤ 4294967295 := by
                rcases j with _ | _ | j
                · exact hX0
                · exact hX1
                · omega
              have hpr := mul_lt _ _ dD.1 dD.2 xX.1 xX.2
              have hv' := prod_step O i j _ (D.getD i 0 * (dig2 a).getD j 0) hO7 (by omega) hOv
              have hval : val (D.take i) * a + B32 ^ i * D.getD i 0 * val ((dig2 a).take j) + B32 ^ (i + j) * (D.getD i 0 * (dig2 a).getD j 0) = val (D.take i) * a + B32 ^ i * D.getD i 0 * val ((dig2 a).take (j + 1)) := by
                rw [val_take (dig2 a) j (by simp [dig2]; omega), Int.mul_add, Int.pow_add, Int.add_assoc]
                congr 2
                simp only [Int.mul_assoc, Int.mul_left_comm]
              rw [hval] at hv'
              clear hval hOv
              generalize D.getD i 0 = x at *
              generalize (dig2 a).getD j 0 = y at *
              obtain ⟨pr, epr⟩ : ∃ pr, x * y = pr := ⟨_, rfl⟩
              have hw : IntKind.u64.wrap (x * y) = pr := by rw [IntKind.wrap_u64, epr]; exact Int.emod_eq_of_lt (by rw [← epr]; exact hpr.1) (by rw [← epr]; exact hpr.2)
              rw [epr] at hpr hv'
              have ha32 := and32 _ hpr.1 hpr.2
              clear epr
              have c1 : wr.cell? ⟨go, i + j, none⟩ = _ := (bO.cell (i + j)).trans (nums_get .u64 O (i + j) (by omega))
              have c2 : wr.cell? ⟨go, i + j + 1, none⟩ = _ := (bO.cell (i + j + 1)).trans (nums_get .u64 O (i + j + 1) (by omega))
              have f1 := bO.free (i + j)
              have f2 := bO.free (i + j + 1)
              have u1 := hOu (i + j)
              have u2 := hOu (i + j + 1)
              have e12 : (O.set (i + j) (O.getD (i + j) 0 + pr % 4294967296)).getD (i + j + 1) 0 = O.getD (i + j + 1) 0 := by rw [getD_set', if_neg (by omega)]
              rw [e12] at hv'
              have hup := (hOu.set (c := (2 * i + (j + 1 : Nat)) * 4294967296) (i + j) (O.getD (i + j) 0 + pr % 4294967296) (by omega) (by omega) (by omega)).set (c := (2 * i + (j + 1 : Nat)) * 4294967296) (i + j + 1) (O.getD (i + j + 1) 0 + pr / 4294967296) (Int.le_refl _) (by omega) (by omega)
              have n1 := bO.put (i + j) (.int .u64 (O.getD (i + j) 0 + pr % 4294967296))
              rw [nums_put] at n1
              have n2 := n1.put (i + j + 1) (.int .u64 (O.getD (i + j + 1) 0 + pr / 4294967296))
              rw [nums_put] at n2
              have k2 := (bD.far (p := ⟨go, i + j, none⟩) (by show g ≠ go; omega) (.int .u64 (O.getD (i + j) 0 + pr % 4294967296))).far (p := ⟨go, i + j + 1, none⟩) (by show g ≠ go; omega) (.int .u64 (O.getD (i + j + 1) 0 + pr / 4294967296))
              have k3 := (bX.far (p := ⟨go, i + j, none⟩) (by show w.heap.size + 1 ≠ go; omega) (.int .u64 (O.getD (i + j) 0 + pr % 4294967296))).far (p := ⟨go, i + j + 1, none⟩) (by show w.heap.size + 1 ≠ go; omega) (.int .u64 (O.getD (i + j + 1) 0 + pr / 4294967296))
              have k4 := (hb.setCell (p := ⟨go, i + j, none⟩) (by show _ ≤ go; omega) (.int .u64 (O.getD (i + j) 0 + pr % 4294967296))).setCell (p := ⟨go, i + j + 1, none⟩) (by show _ ≤ go; omega) (.int .u64 (O.getD (i + j + 1) 0 + pr / 4294967296))
              have hset : ((O.set (i + j) (O.getD (i + j) 0 + pr % 4294967296)).set (i + j + 1) (O.getD (i + j + 1) 0 + pr / 4294967296)).length = 7 := by simp [hO7]
              obtain ⟨O2, eO2⟩ : ∃ O2, (O.set (i + j) (O.getD (i + j) 0 + pr % 4294967296)).set (i + j + 1) (O.getD (i + j + 1) 0 + pr / 4294967296) = O2 := ⟨_, rfl⟩
              rw [eO2] at hv' hup n2 hset
              clear eO2 e12 n1 bO bD bX hb hOu
              generalize O.getD (i + j) 0 = o1 at *
              generalize O.getD (i + j + 1) 0 = o2 at *
              have HV := Lib.hid hv'
              have HU := Lib.hid hup
              have HS := Lib.hid hset
              have N2 := Lib.hid n2
              have K2 := Lib.hid k2
              have K3 := Lib.hid k3
              have K4 := Lib.hid k4
              clear hv' hup hset n2 k2 k3 k4 hO7
              go_wp2_with fail
              go_quiet (fail)
              go_wp2_with fail
              go_roundw
              case rel => exact ⟨j + 1, O2, by omega, by go_num, HS.out, HU.out, HV.out, N2.out, K2.out, K3.out, ⟨K4.out.os, K4.out.tape, K4.out.output, K4.out.size, K4.out.block⟩⟩
              case measure => simp [intOf]; omega
            · have hj2 : j = 2 := by omega
              have hval : val (D.take i) * a + B32 ^ i * D.getD i 0 * val ((dig2 a).take j) = val (D.take (i + 1)) * a := by
                rw [hj2, show (dig2 a).take 2 = dig2 a from rfl, val_dig2, val_take D i (by omega), Int.add_mul]
              rw [hval] at hOv
              have hup : Upto O (2 * (i + 1 : Nat) * 4294967296) := hOu.mono (by rw [hj2]; omega)
              have HV := Lib.hid hOv
              have HU := Lib.hid hup
              have HO7 := Lib.hid hO7
              clear hval hOv hup hOu hO7 hj2
              go_wp2_with fail
              go_roundw
              case rel => exact ⟨i + 1, O, by omega, by go_num, HO7.out, HU.out, HV.out, bO, bD, bX, hb⟩
              case measure => simp [intOf]; omega
        · have hi5 : i = 5 := by omega
          have hpow := pow_small a ha ha1 t (by omega)
          have d5 : D.getD 5 0 = 0 := digit_zero D _ hDu 5 (by rw [hDv]; exact hpow)
          have d6 : D.getD 6 0 = 0 := digit_zero D _ hDu 6 (by rw [hDv]; exact Int.lt_of_lt_of_le hpow (B32_le 5 6 (by decide)))
          clear hpow
          have hall : val (D.take i) = val D := by
            have e1 := val_take D 5 (by omega)
            have e2 := val_take D 6 (by omega)
            rw [d5, Int.mul_zero, Int.add_zero] at e1
            rw [d6, Int.mul_zero, Int.add_zero, e1] at e2
            rw [hi5, ← e2, List.take_of_length_le (by omega)]
          rw [hall, hDv, ← Int.pow_succ] at hOv
          have hup : Upto O 42949672960 := hOu.mono (by rw [hi5]; decide)
          clear hall d5 d6 hOu hi5
          have HDv := Lib.hid hDv
          have HOv := Lib.hid hOv
          have HO7 := Lib.hid hO7
          clear hDv hOv hO7
          go_wp2_with fail
          have et : decide ((t : Int) < 3) = true := decide_eq_true (by omega)
          rw [et]
          clear et
          go_loopw [12] (fun i w4 => ∃ (k : Nat) (O : List Int), k ≤ 6 ∧ i = .int .i64 k ∧ O.length = 7 ∧ Upto O 47244640256 ∧ (∀ j, j < k → O.getD j 0 ≤ 4294967295) ∧ (∀ j, k < j → O.getD j 0 ≤ 42949672960) ∧ val O = a ^ (t + 1) ∧ Blk w4 go 33 (nums .u64 O) ∧ Blk w4 (w.heap.size + 1) 33 (nums .u64 (dig2 a)) ∧ Below w.heap.size w w4) (fun i _ => 6 - (intOf i).toNat)
          case atStart => exact ⟨0, O, by decide, rfl, HO7.out, hup.mono (by decide), fun j hj => by omega, fun j _ => (hup j).2, HOv.out, bO, bX, hb⟩
          case round =>
            clear bO bD bX hb hup HOv HO7
            obtain ⟨i, O, hi, rfl, hO7, hOu, hlow, hhigh, hOv, bO, bX, hb⟩ := hrel
            by_cases hli : i < 6
            · have c1 : wr.cell? ⟨go, i, none⟩ = _ := (bO.cell i).trans (nums_get .u64 O i (by omega))
              have c2 : wr.cell? ⟨go, i + 1, none⟩ = _ := (bO.cell (i + 1)).trans (nums_get .u64 O (i + 1) (by omega))
              have f1 := bO.free i
              have f2 := bO.free (i + 1)
              have u1 := hOu i
              have u2 := hOu (i + 1)
              have u2' := hhigh (i + 1) (by omega)
              have ha32 := and32 (O.getD i 0) u1.1 (by omega)
              have hv' := carry_step O i hO7 hli
              rw [hOv] at hv'
              have hup := (hOu.set (c := 47244640256) (i + 1) (O.getD (i + 1) 0 + O.getD i 0 / 4294967296) (Int.le_refl _) (by omega) (by omega)).set (c := 47244640256) i (O.getD i 0 % 4294967296) (Int.le_refl _) (by omega) (by omega)
              have hlow' : ∀ j, j < i + 1 → ((O.set (i + 1) (O.getD (i + 1) 0 + O.getD i 0 / 4294967296)).set i (O.getD i 0 % 4294967296)).getD j 0 ≤ 4294967295 := fun j hj => by
                rw [getD_set', getD_set']
                split
                · omega
                · rw [if_neg (by omega)]
                  exact hlow j (by rename_i h; rw [List.length_set] at h; omega)
              have hhigh' : ∀ j, i + 1 < j → ((O.set (i + 1) (O.getD (i + 1) 0 + O.getD i 0 / 4294967296)).set i (O.getD i 0 % 4294967296)).getD j 0 ≤ 42949672960 := fun j hj => by
                rw [getD_set', getD_set', if_neg (by omega), if_neg (by omega)]
                exact hhigh j (by omega)
              have n1 := bO.put (i + 1) (.int .u64 (O.getD (i + 1) 0 + O.getD i 0 / 4294967296))
              rw [nums_put] at n1
              have n2 := n1.put i (.int .u64 (O.getD i 0 % 4294967296))
              rw [nums_put] at n2
              have k3 := (bX.far (p := ⟨go, i + 1, none⟩) (by show w.heap.size + 1 ≠ go; omega) (.int .u64 (O.getD (i + 1) 0 + O.getD i 0 / 4294967296))).far (p := ⟨go, i, none⟩) (by show w.heap.size + 1 ≠ go; omega) (.int .u64 (O.getD i 0 % 4294967296))
              have k4 := (hb.setCell (p := ⟨go, i + 1, none⟩) (by show _ ≤ go; omega) (.int .u64 (O.getD (i + 1) 0 + O.getD i 0 / 4294967296))).setCell (p := ⟨go, i, none⟩) (by show _ ≤ go; omega) (.int .u64 (O.getD i 0 % 4294967296))
              have hset : ((O.set (i + 1) (O.getD (i + 1) 0 + O.getD i 0 / 4294967296)).set i (O.getD i 0 % 4294967296)).length = 7 := by simp [hO7]
              obtain ⟨O2, eO2⟩ : ∃ O2, (O.set (i + 1) (O.getD (i + 1) 0 + O.getD i 0 / 4294967296)).set i (O.getD i 0 % 4294967296) = O2 := ⟨_, rfl⟩
              rw [eO2] at hv' hup n2 hset hlow' hhigh'
              clear eO2 n1 bO bX hb hOu hlow hhigh hOv
              generalize O.getD i 0 = o1 at *
              generalize O.getD (i + 1) 0 = o2 at *
              have HL := Lib.hid hlow'
              have HH := Lib.hid hhigh'
              have HV := Lib.hid hv'
              have HU := Lib.hid hup
              have HS := Lib.hid hset
              have N2 := Lib.hid n2
              have K3 := Lib.hid k3
              have K4 := Lib.hid k4
              clear hv' hup hset n2 k3 k4 hO7 hlow' hhigh'
              have t1 : IntKind.i64.wrap ((i : Int) + 1) = (i : Int) + 1 := IntWalk.i64_in _ (by omega)
              have t2 : ((i : Int) + 1).toNat = i + 1 := by omega
              have t3 : (0 : Int) ≤ (i : Int) + 1 := by omega
              have t4 : (i : Int) + 1 < 7 := by omega
              have t6 : (i : Int) < 7 := by omega
              have t5 : IntKind.u64.wrap (o2 + o1 / 4294967296) = o2 + o1 / 4294967296 := by rw [IntKind.wrap_u64]; exact Int.emod_eq_of_lt (by omega) (by omega)
              go_wp2_with fail
              go_still_tail 15, (by kernel_rfl)
              go_wp2_with fail
              go_roundw
              case rel => exact ⟨i + 1, O2, by omega, by go_num, HS.out, HU.out, HL.out, HH.out, HV.out, N2.out, K3.out, ⟨K4.out.os, K4.out.tape, K4.out.output, K4.out.size, K4.out.block⟩⟩
              case measure => simp [intOf]; omega
            · have hi6 : i = 6 := by omega
              have h6 : O.getD 6 0 = 0 := digit_zero O _ hOu 6 (by rw [hOv]; exact Int.lt_of_lt_of_le (pow_cube a ha ha1 (t + 1) (by omega)) (B32_le 4 6 (by decide)))
              have hup : Upto O 4294967295 := fun j => ⟨(hOu j).1, by
                rcases Nat.lt_or_ge j 6 with h | h
                · exact hlow j (by omega)
                · rcases Nat.eq_or_lt_of_le h with h | h
                  · rw [← h, h6]; decide
                  · have : O.getD j 0 = 0 := by simp [List.getD, List.getElem?_eq_none (show O.length ≤ j by omega)]
                    rw [this]; decide⟩
              have HO7 := Lib.hid hO7
              have HOv := Lib.hid hOv
              clear h6 hi6 hO7 hOv hOu hlow hhigh
              go_wp2_with fail
              go_roundw
              case rel => exact ⟨t + 1, go, O, by omega, by go_num, rfl, HO7.out, hup, HOv.out, bO, bX, hb⟩
              case measure => simp [intOf]; omega
    · have ht3 : t = 3 := by omega
      rw [ht3] at hDv
      have c4 := digit_zero D _ hDu 4 (by rw [hDv]; exact pow_cube a ha ha1 3 (by decide))
      have c5 := digit_zero D _ hDu 5 (by rw [hDv]; exact Int.lt_of_lt_of_le (pow_cube a ha ha1 3 (by decide)) (B32_le 4 5 (by decide)))
      have c6 := digit_zero D _ hDu 6 (by rw [hDv]; exact Int.lt_of_lt_of_le (pow_cube a ha ha1 3 (by decide)) (B32_le 4 6 (by decide)))
      have hv := val7 D hD7
      rw [c4, c5, c6, hDv] at hv
      have hcube : a ^ 3 = a * a * a := by rw [Int.pow_succ, Int.pow_succ, Int.pow_succ, Int.pow_zero, Int.one_mul]
      rw [hcube] at hv
      have k0 : wr.cell? ⟨g, 0, none⟩ = _ := (bD.cell 0).trans (nums_get .u64 D 0 (by omega))
      have k1 : wr.cell? ⟨g, 1, none⟩ = _ := (bD.cell 1).trans (nums_get .u64 D 1 (by omega))
      have k2 : wr.cell? ⟨g, 2, none⟩ = _ := (bD.cell 2).trans (nums_get .u64 D 2 (by omega))
      have k3 : wr.cell? ⟨g, 3, none⟩ = _ := (bD.cell 3).trans (nums_get .u64 D 3 (by omega))
      have k4 : wr.cell? ⟨g, 4, none⟩ = _ := (bD.cell 4).trans (nums_get .u64 D 4 (by omega))
      have k5 : wr.cell? ⟨g, 5, none⟩ = _ := (bD.cell 5).trans (nums_get .u64 D 5 (by omega))
      have k6 : wr.cell? ⟨g, 6, none⟩ = _ := (bD.cell 6).trans (nums_get .u64 D 6 (by omega))
      rw [c4] at k4
      rw [c5] at k5
      rw [c6] at k6
      have u0 := hDu 0
      have u1 := hDu 1
      have u2 := hDu 2
      have u3 := hDu 3
      clear c4 c5 c6 hDv hDu hD7 bD bX hcube ht3 hand
      generalize D.getD 0 0 = d0 at *
      generalize D.getD 1 0 = d1 at *
      generalize D.getD 2 0 = d2 at *
      generalize D.getD 3 0 = d3 at *
      have HV := Lib.hid hv
      clear hv
      by_cases h3 : d3 = p
      · have he : (d3 == p) = true := by simpa using h3
        have hne : (d3 != p) = false := by simpa using h3
        by_cases g2 : d2 = 0
        · have e2 : (d2 == 0) = true := by simpa using g2
          by_cases g1 : d1 = 0
          · have e1 : (d1 == 0) = true := by simpa using g1
            by_cases g0 : d0 = 0
            · have e0 : (d0 == 0) = true := by simpa using g0
              have hd : Hid (decide (a * a * a ≤ p * 79228162514264337593543950336) = true) := by unfold Hid; have := HV.out; rw [decide_eq_true_iff]; omega
              clear h3 g2 g1 g0
              go_wp2
              go_ret
              exact ⟨by rw [hd.out]; rfl, hb⟩
            · have e0 : (d0 == 0) = false := by simpa using g0
              have hd : Hid (decide (a * a * a ≤ p * 79228162514264337593543950336) = false) := by unfold Hid; have := HV.out; rw [decide_eq_false_iff_not]; omega
              clear h3 g2 g1 g0
              go_wp2
              go_ret
              exact ⟨by rw [hd.out]; rfl, hb⟩
          · have e1 : (d1 == 0) = false := by simpa using g1
            have hd : Hid (decide (a * a * a ≤ p * 79228162514264337593543950336) = false) := by unfold Hid; have := HV.out; rw [decide_eq_false_iff_not]; omega
            clear h3 g2 g1
            go_wp2
            go_ret
            exact ⟨by rw [hd.out]; rfl, hb⟩
        · have e2 : (d2 == 0) = false := by simpa using g2
          have hd : Hid (decide (a * a * a ≤ p * 79228162514264337593543950336) = false) := by unfold Hid; have := HV.out; rw [decide_eq_false_iff_not]; omega
          clear h3 g2
          go_wp2
          go_ret
          exact ⟨by rw [hd.out]; rfl, hb⟩
      · have hd : Hid (decide (a * a * a ≤ p * 79228162514264337593543950336) = decide (d3 < p)) := by
          unfold Hid
          have := HV.out
          rw [decide_eq_decide]
          omega
        have hne : (d3 == p) = false := by simpa using h3
        have hne' : (d3 != p) = true := by simpa using h3
        go_wp2
        go_ret
        exact ⟨by rw [hd.out]; rfl, hb⟩
end Go.Proofs.YtnankgophbjioaaDoor
