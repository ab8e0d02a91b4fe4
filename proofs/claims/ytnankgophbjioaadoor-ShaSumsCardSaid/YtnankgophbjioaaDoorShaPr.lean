
/- The document's answer: the first primes. -/
import Derived.Test.YtnankgophbjioaaDoorShaK
import Derived.Test.YtnankgophbjioaaDoorShaP
import Derived.Test.YtnankgophbjioaaDoorApp
namespace Go.Proofs.YtnankgophbjioaaDoor
open Go.RowKit

/-- Does none of these divide p? -/
def noneOf (l : List Int) (p : Int) : Bool := l.all fun d => !(p % d == 0)
/-- The primes below k + 2. -/
def pl : Nat → List Int
  | 0 => []
  | k + 1 => if noneOf (pl k) (k + 2) = true then pl k ++ [(k : Int) + 2] else pl k
theorem pl_zero : pl 0 = [] := rfl
theorem pl_succ (k : Nat) : pl (k + 1) = if noneOf (pl k) (k + 2) = true then pl k ++ [(k : Int) + 2] else pl k := rfl
theorem pl_309 : (pl 309).length = 63 := by decide +kernel
theorem pl_310 : (pl 310).length = 64 := by decide +kernel
theorem pl_roots : (pl 310).map (fun p => kf p 35 % 4294967296) = rootsL := by decide +kernel
theorem pl_range : ∀ k, ∀ d ∈ pl k, 2 ≤ d ∧ d < (k : Int) + 2
  | 0 => fun d hd => by simp [pl] at hd
  | k + 1 => fun d hd => by
    have ih := pl_range k
    rw [pl_succ] at hd
    split at hd
    · rcases List.mem_append.1 hd with h | h
      · have := ih d h; omega
      · rw [List.mem_singleton] at h; omega
    · have := ih d hd; omega
theorem pl_mono : ∀ k n, (pl k).length ≤ (pl (k + n)).length
  | _, 0 => Nat.le_refl _
  | k, n + 1 => by
    have ih := pl_mono k n
    rw [← Nat.add_assoc, pl_succ]
    split
    · rw [List.length_append]; omega
    · exact ih
theorem pl_few (k : Nat) (h : k < 310) : (pl k).length < 64 := by
  have h1 := pl_mono k (309 - k)
  rw [show k + (309 - k) = 309 by omega, pl_309] at h1
  omega
attribute [irreducible] pl
theorem noneOf_take (l : List Int) (p : Int) (j : Nat) (h : j < l.length) : noneOf (l.take (j + 1)) p = (noneOf (l.take j) p && !(p % l.getD j 0 == 0)) := by
  rw [take_snoc l j h]
  simp [noneOf]
theorem info33 : (Tryd.prog.info? 33).map (fun i => (i.zero, i.size, i.bytes)) = some (some (.int .u64 0), 1, 8) := by kernel_rfl

set_option maxHeartbeats 800000 in
theorem ref_Primes (w : World) :
    Calls Tryd.prog 13 #[.int .i64 64] w fun e w' => ∃ v, e = .returned v ∧ Own w' w.heap.size .u64 33 v (pl 310) ∧ Below w.heap.size w w' := by
  go_enter Tryd.func13, Tryd.ntmps13
  go_wp2_with fail
  go_loopw [3, 4] (fun v p wr => ∃ k : Nat, k ≤ 310 ∧ p = .int .u64 ((k : Int) + 2) ∧ Own wr w.heap.size .u64 33 v (pl k) ∧ Below w.heap.size w wr) (fun _ p _ => 312 - (intOf p).toNat)
  case atStart => exact ⟨0, by decide, rfl, by rw [pl_zero]; exact Own.nil _ _ _ _, Below.refl _ _⟩
  case round =>
    obtain ⟨k, hk, rfl, hown, hb⟩ := hrel
    obtain ⟨A, c, rfl, h1, h2, h3, h4, h5⟩ := hown.form
    by_cases hlt : k < 310
    · have hl := pl_few k hlt
      have hr := pl_range k
      have HP := Lib.hid (pl_succ k)
      have HOWN := Lib.hid hown
      clear hown h1 h2 h3 h4
      generalize pl k = l at *
      have hll : (l.length : Int) < 64 := by omega
      go_wp2_with fail
      go_loop [5, 6] (fun b i => ∃ j : Nat, j ≤ l.length ∧ i = .int .i64 j ∧ b = .bool (noneOf (l.take j) ((k : Int) + 2))) (fun _ i => l.length - (intOf i).toNat)
      case atStart => exact ⟨0, Nat.zero_le _, rfl, rfl⟩
      case round =>
        obtain ⟨j, hj, rfl, rfl⟩ := hrel
        by_cases hjl : j < l.length
        · obtain ⟨b, o, rfl, _, hc⟩ := h5.get hjl
          have hd := hr _ (List.getElem_mem hjl)
          have hg : l.getD j 0 = l[j] := by simp [List.getD, hjl]
          rw [← hg] at hd
          have HN := Lib.hid (noneOf_take l ((k : Int) + 2) j hjl)
          clear hg hr
          generalize l.getD j 0 = d at *
          go_wp2_with fail
          all_goals
            rename_i hz
            have HZ := Lib.hid hz
            go_round
            case rel => exact ⟨j + 1, by omega, by go_num, by rw [HN.out, HZ.out]; simp⟩
            case measure => simp [intOf]; omega
        · have hj' : j = l.length := by omega
          have htk : noneOf (l.take j) ((k : Int) + 2) = noneOf l ((k : Int) + 2) := by rw [hj', List.take_length]
          rw [htk]
          have hw : w.heap.size ≤ wr.heap.size := hb.size
          clear htk hj' h5 hr
          by_cases hp : noneOf l ((k : Int) + 2) = true
          · have HPN := Lib.hid hp
            have b1 : Blk (wr.alloc (.cells (nums .u64 [(k : Int) + 2]) 33)) wr.heap.size 33 (nums .u64 [(k : Int) + 2]) := Blk.fresh _ _ _
            have o1 := HOWN.out.alloc (.cells (nums .u64 [(k : Int) + 2]) 33)
            obtain ⟨v', w4, hra, o2, hb2, _⟩ := run_append_nums (P := Tryd.prog) (ty := 41) (cap := 1) Tryd.underlying41 info33 (by decide) o1 b1.rd (fun h => by cases h) (by simp; omega) (by simp; omega)
            have HR := Lib.hid hra
            have HB : Hid (Below w.heap.size w w4) := (hb.alloc hw _).trans hb2
            have O2 := Lib.hid o2
            clear hra o2 hb2 o1 b1
            rw [hp]
            clear hp
            go_wp2_with ((with_reducible refine is_append 41 rfl ?_); (with_reducible refine wpList_append_run rfl rfl HR.out ?_ ?_ ?_); (· rfl); (· rfl))
            go_roundw
            case rel => exact ⟨k + 1, by omega, by go_num, by rw [HP.out, if_pos HPN.out]; exact O2.out, HB.out⟩
            case measure => simp [intOf]; omega
          · have hp' : noneOf l ((k : Int) + 2) = false := by simpa using hp
            have HPN := Lib.hid hp
            rw [hp']
            clear hp hp'
            go_wp2_with fail
            go_roundw
            case rel => exact ⟨k + 1, by omega, by go_num, by rw [HP.out, if_neg HPN.out]; exact HOWN.out, hb⟩
            case measure => simp [intOf]; omega
    · have hk' : k = 310 := by omega
      subst hk'
      have H := Lib.hid hown
      have h64 : ((pl 310).length : Int) = 64 := by rw [pl_310]; rfl
      clear hown h5 h4 h3 h2 h1 hlt hk
      obtain ⟨l, el⟩ : ∃ l, pl 310 = l := ⟨_, rfl⟩
      rw [el] at H h64 ⊢
      have EL := Lib.hid el
      clear el
      go_wp2
      go_ret
      exact ⟨_, rfl, by rw [EL.out]; exact H.out, hb⟩
end Go.Proofs.YtnankgophbjioaaDoor
