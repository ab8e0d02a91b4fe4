
/- Package item: formed, ranged. -/
import Derived.Test.YtobolfnokjekcaaItemQ
import Derived.Test.YtobolfnokjekcaaFloatE
import Derived.Test.YtobolfnokjekcaaUtfC
namespace Go.Proofs.Ytobolfnokjekcaa
open Go.RowKit

/-- Is an item of a kind, with no other fields than it has? a, b: has it no number, no text; m: how many items. -/
def formK (k : Int) (a b : Bool) (m : Int) : Bool :=
  if k = 0 ∨ k = 1 ∨ k = 7 ∨ k = 8 then b && (m == 0) else if k = 2 ∨ k = 3 then a && (m == 0) else if k = 4 then a && b else if k = 5 then a && b && (m % 2 == 0) else if k = 6 then b && (m == 1) else false
def formB (t : It) : Bool := formK t.k (t.n == 0) t.s.toList.isEmpty t.l.length

set_option maxRecDepth 100000 in
set_option maxHeartbeats 4000000 in
theorem item_formed (t : It) (A : Option Addr) (cap : Nat) (w : World) :
    Calls Try.prog 25 #[vI t A cap] w fun e w' => e = .returned (.bool (formB t)) ∧ Below w.heap.size w w' := by
  obtain ⟨k, n, s, l⟩ := t
  obtain ⟨w1, hw1, b1, S⟩ := iblk1 w 25 #[.int .i64 k, .int .u64 n, .string s, .slice A l.length cap]
  obtain ⟨p0, p1, p2, p3, -⟩ := iblk b1
  have HS := Lib.hid S
  clear S b1
  simp only [vI, formB, It.k, It.n, It.s, It.l]
  obtain ⟨r, hr⟩ : ∃ r, formK k (n == 0) s.toList.isEmpty l.length = r := ⟨_, rfl⟩
  rw [hr]
  have HR := Lib.hid hr
  clear hr
  go_enter Try.func25, Try.ntmps25
  go_wp2_with fail
  go_quiet (fail)
  have HS2 := Lib.hid (below_drewN HS.out nq)
  have q0 : (w1.drewN nq).cell? ⟨w.heap.size, 0, none⟩ = some (.int .i64 k) := p0
  generalize w1.drewN nq = w2 at *
  generalize (n == 0) = a at *
  generalize s.toList.isEmpty = b at *
  have hm0 : (0 : Int) ≤ l.length := by omega
  generalize (l.length : Int) = m at *
  clear p0 p1 p2 p3 hw1
  rcases (by omega : k = 0 ∨ k = 1 ∨ k = 2 ∨ k = 3 ∨ k = 4 ∨ k = 5 ∨ k = 6 ∨ k = 7 ∨ k = 8 ∨ (k < 0 ∨ 8 < k)) with rfl | rfl | rfl | rfl | rfl | rfl | rfl | rfl | rfl | hk
  case' inr.inr.inr.inr.inr.inr.inr.inr.inr =>
    have e : formK k a b m = false := by
      unfold formK
      rw [if_neg (by omega), if_neg (by omega), if_neg (by omega), if_neg (by omega), if_neg (by omega)]
    rw [e] at HR
    have n0 : (k == 0) = false := by simp; omega
    have n1 : (k == 1) = false := by simp; omega
    have n2 : (k == 2) = false := by simp; omega
    have n3 : (k == 3) = false := by simp; omega
    have n4 : (k == 4) = false := by simp; omega
    have n5 : (k == 5) = false := by simp; omega
    have n6 : (k == 6) = false := by simp; omega
    have n7 : (k == 7) = false := by simp; omega
    have n8 : (k == 8) = false := by simp; omega
    clear hk e
    go_wp2_with fail
    go_ret
    exact ⟨by rw [← HR.out]; rfl, HS2.out⟩
  all_goals
    cases a <;> cases b <;> go_wp2_with fail
    all_goals go_ret
    all_goals exact ⟨by rw [← HR.out]; rfl, HS2.out⟩
end Go.Proofs.Ytobolfnokjekcaa
