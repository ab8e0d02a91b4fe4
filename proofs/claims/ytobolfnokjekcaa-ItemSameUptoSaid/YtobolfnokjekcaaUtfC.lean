
/- Package utf: Valid, First. -/
import Derived.Test.YtobolfnokjekcaaUtfB
namespace Go.Proofs.Ytobolfnokjekcaa
open Go.RowKit

theorem utf_valid (s : ByteArray) (hs : s.size ≤ 1000000000) (w : World) :
    Calls Try.prog 27 #[.string s] w fun e w' => e = .returned (.bool (uok uq0 (sbytes s))) ∧ Below w.heap.size w w' := by
  have HW := Lib.hid (utf_walk s hs)
  go_enter Try.func27, Try.ntmps27
  go_wp2_with fail
  refine (HW.out _).mono ?_
  rintro e w1 ⟨⟨n, l, u, b⟩, rfl, hd, h1⟩
  rw [show ucells ⟨n, l, u, b⟩ = #[.int .i64 n, .int .u8 l, .int .u8 u, .bool b] from rfl]
  have HD := Lib.hid (utf_done ⟨n, l, u, b⟩ (w1.alloc (.cells (ucells ⟨n, l, u, b⟩) 54)) w1.heap.size (Blk.fresh _ _ _))
  rw [hd] at HD
  go_wp2_with fail
  refine HD.out.mono ?_
  rintro e w' ⟨rfl, rfl⟩
  go_wp2_with fail
  go_ret
  exact ⟨rfl, h1.alloc h1.size _⟩
end Go.Proofs.Ytobolfnokjekcaa
