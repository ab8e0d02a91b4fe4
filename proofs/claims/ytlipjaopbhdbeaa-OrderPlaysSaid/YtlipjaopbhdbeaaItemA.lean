
/- Numbers and texts held against each other; the first that isn't 0. -/
import Derived.Test.YtlipjaopbhdbeaaTreeM
import Derived.Lib.Bytealg
import Derived.Test.YtlipjaopbhdbeaaChecked
namespace Go.Proofs.Ytlipjaopbhdbeaa
open Go.RowKit

theorem ByteArray.toNat_list (a : UInt8) : ((a.toNat : Int)) = ((a.toNat : Nat) : Int) := rfl
theorem textC_bytes : ∀ (a b : List UInt8), seqC intC (a.map fun c => (c.toNat : Int)) (b.map fun c => (c.toNat : Int)) = Lib.compareBytes a b := by
  intro a
  induction a with
  | nil => intro b; cases b <;> simp [seqC, Lib.compareBytes]
  | cons x a ih =>
    intro b
    cases b with
    | nil => simp [seqC, Lib.compareBytes]
    | cons y b =>
      simp only [List.map_cons, seqC, Lib.compareBytes, ih b]
      unfold intC
      have h1 : (x < y) ↔ (x.toNat : Int) < (y.toNat : Int) := by rw [UInt8.lt_iff_toNat_lt]; omega
      have h2 : (y < x) ↔ (y.toNat : Int) < (x.toNat : Int) := by rw [UInt8.lt_iff_toNat_lt]; omega
      by_cases p : x < y
      · rw [if_pos (h1.1 p), if_pos p]; rfl
      · rw [if_neg (fun h => p (h1.2 h)), if_neg p]
        by_cases q : y < x
        · rw [if_pos (h2.1 q), if_pos q]; rfl
        · rw [if_neg (fun h => q (h2.2 h)), if_neg q]; rfl
theorem textC_eq (a b : ByteArray) : textC a b = Lib.compareBytes a.data.toList b.data.toList := textC_bytes _ _

theorem cmp_int (a b : Int) (w : World) : Calls Try.prog 88 #[.int .i64 a, .int .i64 b] w fun e w' => e = .returned (.int .i64 (intC a b)) ∧ w' = w := by
  unfold intC
  by_cases h1 : a < b
  · rw [if_pos h1]
    go_enter Try.func88, Try.ntmps88
    go_wp2
    go_ret
    exact ⟨rfl, rfl⟩
  · rw [if_neg h1]
    by_cases h2 : b < a
    · rw [if_pos h2]
      go_enter Try.func88, Try.ntmps88
      go_wp2
      go_ret
      exact ⟨rfl, rfl⟩
    · rw [if_neg h2]
      go_enter Try.func88, Try.ntmps88
      go_wp2
      go_ret
      exact ⟨rfl, rfl⟩
theorem cmp_u64 (a b : Int) (w : World) : Calls Try.prog 89 #[.int .u64 a, .int .u64 b] w fun e w' => e = .returned (.int .i64 (intC a b)) ∧ w' = w := by
  unfold intC
  by_cases h1 : a < b
  · rw [if_pos h1]
    go_enter Try.func89, Try.ntmps89
    go_wp2
    go_ret
    exact ⟨rfl, rfl⟩
  · rw [if_neg h1]
    by_cases h2 : b < a
    · rw [if_pos h2]
      go_enter Try.func89, Try.ntmps89
      go_wp2
      go_ret
      exact ⟨rfl, rfl⟩
    · rw [if_neg h2]
      go_enter Try.func89, Try.ntmps89
      go_wp2
      go_ret
      exact ⟨rfl, rfl⟩
set_option maxRecDepth 100000 in
theorem cmp_string (a b : ByteArray) (w : World) : Calls Try.prog 109 #[.string a, .string b] w fun e w' => e = .returned (.int .i64 (textC a b)) ∧ w' = w := by
  rw [textC_eq]
  go_enter Try.func109, Try.ntmps109
  go_wp2
  rw [run_callFunc_extern Try.func113 (by kernel_rfl) (by kernel_rfl) (by kernel_rfl) (e := Extern.BytealgCompare.compare) (by kernel_rfl), Lib.run_compareString]
  simp only [Result.andThen]
  rw [Oper.upon_value]
  go_wp2
  go_ret
  exact ⟨rfl, rfl⟩
theorem strings_compare (a b : ByteArray) (w : World) : Calls Try.prog 90 #[.string a, .string b] w fun e w' => e = .returned (.int .i64 (textC a b)) ∧ w' = w := by
  go_enter Try.func90, Try.ntmps90
  go_wp2_with (go_at_call 109; refine (cmp_string _ _ _).mono ?_; rintro e w' ⟨rfl, rfl⟩)
  go_ret
  exact ⟨rfl, rfl⟩

def orC (a b c d : Int) : Int := if a ≠ 0 then a else if b ≠ 0 then b else if c ≠ 0 then c else d
theorem oneC_or (x y : It) : oneC x y = orC (intC x.k y.k) (intC x.n y.n) (intC x.l.length y.l.length) (textC x.s y.s) := by
  unfold oneC thenC orC
  rfl
theorem orC_at {a b c d x : Int} {k : Nat} (hk : k < 4) (hz : ∀ j, j < k → [a, b, c, d].getD j 0 = 0) (hx : [a, b, c, d].getD k 0 = x) (h : x ≠ 0) : orC a b c d = x := by
  unfold orC
  have z0 := hz 0
  have z1 := hz 1
  have z2 := hz 2
  rcases (by omega : k = 0 ∨ k = 1 ∨ k = 2 ∨ k = 3) with rfl | rfl | rfl | rfl <;> simp_all
theorem orC_none {a b c d : Int} (hz : ∀ j, j < 4 → [a, b, c, d].getD j 0 = 0) : orC a b c d = 0 := by
  have z0 := hz 0 (by omega)
  have z1 := hz 1 (by omega)
  have z2 := hz 2 (by omega)
  have z3 := hz 3 (by omega)
  clear hz
  unfold orC
  simp_all
set_option maxHeartbeats 1000000 in
theorem cmp_or (a b c d : Int) (w : World) (g : Nat) (hc : ∀ i, i < 4 → w.cell? ⟨g, i, none⟩ = some (.int .i64 ([a, b, c, d].getD i 0))) :
    Calls Try.prog 87 #[.slice (some ⟨g, 0, none⟩) 4 4] w fun e w' => e = .returned (.int .i64 (orC a b c d)) ∧ w' = w := by
  have HC := Lib.hid hc
  clear hc
  go_enter Try.func87, Try.ntmps87
  go_wp2_with fail
  go_loopw [5, 8] (fun v i wr => ∃ k : Nat, k ≤ 4 ∧ i = .int .i64 (k : Int) ∧ wr = w ∧ (∀ j, j < k → [a, b, c, d].getD j 0 = 0)) (fun _ i _ => 4 - (intOf i).toNat)
  case atStart => exact ⟨0, by omega, rfl, rfl, by omega⟩
  case round =>
    obtain ⟨k, hk, rfl, rfl, hz⟩ := hrel
    by_cases hlt : k < 4
    · obtain ⟨x, hx⟩ : ∃ x, [a, b, c, d].getD k 0 = x := ⟨_, rfl⟩
      have hcell := HC.out k hlt
      rw [hx] at hcell
      have HZ := Lib.hid hz
      have HX := Lib.hid hx
      clear hz hx
      by_cases h0 : x = 0
      · subst h0
        go_wp2
        go_roundw
        case rel => exact ⟨k + 1, by omega, by simp, trivial, fun j hj => by
          by_cases e : j = k
          · subst e; exact HX.out
          · exact HZ.out j (by omega)⟩
        case measure => simp [intOf]; omega
      · have h0' : (x != 0) = true := by simp [h0]
        have HR : RowKit.Hid (orC a b c d = x) := Lib.hid (orC_at hlt HZ.out HX.out h0)
        go_wp2
        go_ret
        exact ⟨by rw [HR.out]; rfl, rfl⟩
    · obtain rfl : k = 4 := by omega
      have HR : RowKit.Hid (orC a b c d = 0) := Lib.hid (orC_none hz)
      clear hz
      go_wp2
      go_ret
      exact ⟨by rw [HR.out]; rfl, rfl⟩
end Go.Proofs.Ytlipjaopbhdbeaa
