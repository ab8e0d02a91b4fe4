
/- Package sha: its calls as a law meets them. -/
import Derived.Test.YtnankgophbjioaaDoorShaG
namespace Go.Proofs.YtnankgophbjioaaDoor
open Go.RowKit

set_option maxHeartbeats 400000 in
theorem sha_Sum (w : World) (zs : List Int) (A : Option Addr) (cap : Nat) (hl : zs.length ≤ 900000000) (bz : ByteL zs) (hcap : zs.length ≤ cap) (hr : Rd w w.heap.size .u8 A zs) (T : Tabs w) :
    Calls Tryd.prog 7 #[.slice A zs.length cap] w fun e w' => ∃ A cap, e = .returned (.slice A 32 cap) ∧ (A = none → cap = 0) ∧ Rd w' w'.heap.size .u8 A (shaL zs) ∧ Below w.heap.size w w' := by
  have htwo := T.two
  go_enter Tryd.func7, Tryd.ntmps7
  go_wp2_with fail
  refine (sha_new w).mono ?_
  rintro e w1 ⟨rfl, hg1, hb1⟩
  have hx : RdX w1 w.heap.size .u8 A zs := (hr.below hb1).x (Nat.le_refl _) hb1.size
  have HW := Lib.hid (sha_write w1 w.heap.size [] zs A cap (by simp; omega) (fun c hc => by simp at hc) bz hcap hg1 hx (T.below hb1) htwo)
  rw [List.nil_append] at HW
  have T1 := Lib.hid (T.below hb1)
  clear hg1 hx
  go_wp2_with fail
  refine HW.out.mono ?_
  rintro e w2 ⟨rfl, hg2, ho2⟩
  have HS := Lib.hid (sha_sum w2 w.heap.size zs hl bz hg2 (T1.out.only ho2 htwo))
  have hb2 : Below w.heap.size w w2 := hb1.trans (ho2.below (Nat.le_refl _) hb1.size)
  clear hg2 ho2 HW
  go_wp2_with fail
  refine HS.out.mono ?_
  rintro e w3 ⟨A', cap', rfl, h1, h2, h3⟩
  go_wp2
  go_ret
  exact ⟨A', cap', rfl, h1, h2, hb2.trans (h3.mono hb2.size)⟩
theorem sha_len (w : World) (g : Nat) (l : List Int) (hg : Blk w g 35 (cellsOf l)) :
    Calls Tryd.prog 12 #[.pointer (some ⟨g, 0, none⟩)] w fun e w' => e = .returned (.int .u64 l.length) ∧ w = w' := by
  have c72 : w.cell? ⟨g, 72, none⟩ = some (.int .u64 l.length) := (hg.cell 72).trans (cells_72 l)
  clear hg
  generalize l.length = n at *
  go_enter Tryd.func12, Tryd.ntmps12
  go_wp2
  go_ret
  exact ⟨rfl, rfl⟩
theorem sha_write_nil (w : World) (v : Value) : Calls Tryd.prog 10 #[.pointer none, v] w fun e w' => e = .returned (.tuple #[]) ∧ w = w' := by
  go_enter Tryd.func10, Tryd.ntmps10
  go_wp2
  exact bodyPost_ret (results_none rfl _ _ _) rfl ⟨rfl, rfl⟩
theorem sha_sum_nil (w : World) : Calls Tryd.prog 11 #[.pointer none] w fun e w' => e = .returned (.slice none 0 0) ∧ w = w' := by
  go_enter Tryd.func11, Tryd.ntmps11
  go_wp2
  go_ret
  exact ⟨rfl, rfl⟩
theorem sha_len_nil (w : World) : Calls Tryd.prog 12 #[.pointer none] w fun e w' => e = .returned (.int .u64 0) ∧ w = w' := by
  go_enter Tryd.func12, Tryd.ntmps12
  go_wp2
  go_ret
  exact ⟨rfl, rfl⟩
end Go.Proofs.YtnankgophbjioaaDoor
