/- Package utf: whole texts. -/
import Derived.Test.YtmihoeholcaokaaKAY
import Derived.Deep.WholeRow
import Derived.Test.YtmihoeholcaokaaKAF
import Derived.Outline
import Derived.Test.YtmihoeholcaokaaKAW
import Derived.Test.YtmihoeholcaokaaKAX
namespace Go.Proofs.Ytmihoeholcaokaa
open Go.RowKit

/-- The state after the first k bytes. -/
def ust (q : UQ) (l : List Int) (k : Nat) : UQ := urun q (l.take k)
theorem urun_append (q : UQ) (a b : List Int) : urun q (a ++ b) = urun (urun q a) b := by
  induction a generalizing q with
  | nil => rfl
  | cons c r ih => exact ih _
theorem ust_zero (q : UQ) (l : List Int) : ust q l 0 = q := rfl
theorem ust_succ (q : UQ) (l : List Int) (k : Nat) (h : k < l.length) : ust q l (k + 1) = ustep (ust q l k) (l.getD k 0) := by
  unfold ust
  rw [List.take_add_one, urun_append]
  simp [h, urun, List.getD_eq_getElem?_getD]
theorem ust_all (q : UQ) (l : List Int) : ust q l l.length = urun q l := by unfold ust; rw [List.take_length]
theorem ustep_left (q : UQ) (c : Int) (h : q.left ≤ 3) : (ustep q c).left ≤ 3 := by
  unfold ustep
  split
  · exact h
  split
  · split
    · rename_i n hn
      have := umore_some hn
      show n ≤ 3
      omega
    · exact h
  split
  · exact h
  · show q.left - 1 ≤ 3
    omega
theorem urun_left (l : List Int) : ∀ q : UQ, q.left ≤ 3 → (urun q l).left ≤ 3 := by
  induction l with
  | nil => exact fun q h => h
  | cons c r ih => exact fun q h => ih _ (ustep_left q c h)
theorem ust_left (l : List Int) (k : Nat) : (ust uq0 l k).left ≤ 3 := urun_left _ _ (Nat.zero_le _)
theorem ustep_wr (q : UQ) (c : Int) (h : q.wr = true) : ustep q c = q := by unfold ustep; rw [if_pos h]
theorem urun_wr (q : UQ) (l : List Int) (h : q.wr = true) : urun q l = q := by
  induction l with
  | nil => rfl
  | cons c r ih => show urun (ustep q c) r = q; rw [ustep_wr q c h, ih]
/-- The first wrong byte's place. -/
theorem uat_shift (l : List Int) : ∀ (q : UQ) (i : Nat), uat q l i = if uat q l 0 < 0 then -1 else uat q l 0 + i := by
  induction l with
  | nil => intro q i; rfl
  | cons c r ih =>
    intro q i
    unfold uat
    split
    · simp
    · rw [ih _ (i + 1), ih _ (0 + 1)]
      split
      · simp
      · split <;> omega
theorem uat_none {q : UQ} {l : List Int} (h : ∀ k, k ≤ l.length → (ust q l k).wr = false) : uat q l 0 = -1 := by
  induction l generalizing q with
  | nil => rfl
  | cons c r ih =>
    have h1 : (ustep q c).wr = false := by simpa [ust, urun] using h 1 (by simp)
    have := ih (q := ustep q c) (fun k hk => by simpa [ust, urun] using h (k + 1) (by simp; omega))
    unfold uat
    rw [if_neg (by simp [h1]), uat_shift, this]
    rfl
theorem uat_some {q : UQ} {l : List Int} (k : Nat) (hk : k < l.length) (h : (ust q l k).wr = false) (h' : (ust q l (k + 1)).wr = true) : uat q l 0 = k := by
  induction l generalizing q k with
  | nil => simp at hk
  | cons c r ih =>
    cases k with
    | zero =>
      have h1 : (ustep q c).wr = true := by simpa [ust, urun] using h'
      unfold uat
      rw [if_pos h1]
    | succ k =>
      have h1 : (ust (ustep q c) r k).wr = false := by simpa [ust, urun] using h
      have h0 : (ustep q c).wr = false := by
        cases hw : (ustep q c).wr with
        | false => rfl
        | true =>
          have := urun_wr (ustep q c) (r.take k) hw
          unfold ust at h1
          rw [this, hw] at h1
          cases h1
      have := ih (q := ustep q c) k (by simpa using hk) h1 (by simpa [ust, urun] using h')
      unfold uat
      rw [if_neg (by simp [h0]), uat_shift, this, if_neg (by omega)]
      simp
/-- Once wrong, wrong. -/
theorem ust_wr_mono {q : UQ} {l : List Int} {j k : Nat} (hjk : j ≤ k) (h : (ust q l j).wr = true) : (ust q l k).wr = true := by
  have e : l.take k = l.take j ++ (l.take k).drop j := by
    have := (List.take_append_drop j (l.take k)).symm
    rwa [List.take_take, Nat.min_eq_left hjk] at this
  unfold ust at h ⊢
  rw [e, urun_append, urun_wr _ _ h, h]
theorem uok_wr {q : UQ} {l : List Int} {k : Nat} (hk : k ≤ l.length) (h : (ust q l k).wr = true) : uok q l = false := by
  have := ust_wr_mono hk h
  rw [ust_all] at this
  unfold uok udone
  rw [this]
  rfl
theorem udone_wr {q : UQ} (h : q.wr = true) : udone q = false := by
  unfold udone
  rw [h]
  rfl
/-- What is stored, field by field. -/
theorem ublk_put {w : World} {g : Nat} {t : TypeId} {q : UQ} (h : Blk w g t (ucells q)) (n : Nat) (l u : Int) (b : Bool) :
    Blk ((((w.setCell ⟨g, 0, none⟩ (.int .i64 n)).setCell ⟨g, 1, none⟩ (.int .u8 l)).setCell ⟨g, 2, none⟩ (.int .u8 u)).setCell ⟨g, 3, none⟩ (.bool b)) g t (ucells ⟨n, l, u, b⟩) :=
  (((h.put 0 (.int .i64 n)).put 1 (.int .u8 l)).put 2 (.int .u8 u)).put 3 (.bool b)
theorem below_put4 {w0 w : World} {B g : Nat} (h : Below B w0 w) (hg : B ≤ g) (x0 x1 x2 x3 : Value) :
    Below B w0 ((((w.setCell ⟨g, 0, none⟩ x0).setCell ⟨g, 1, none⟩ x1).setCell ⟨g, 2, none⟩ x2).setCell ⟨g, 3, none⟩ x3) :=
  (((h.setCell hg x0).setCell hg x1).setCell hg x2).setCell hg x3
theorem uq_zero : ∀ w, (zeroValue 79).run Try.prog w = .ok (.agg (ucells uq0)) w := (zero_of_info (n := 4) (by kernel_rfl)).1

set_option maxRecDepth 100000 in
theorem utf_walk (s : ByteArray) (hs : s.size ≤ 1000000000) (w : World) :
    Calls Try.prog 37 #[.string s] w fun e w' => ∃ q, e = .returned (.tuple #[.agg (ucells q), .int .i64 (uat uq0 (sbytes s) 0)]) ∧ udone q = uok uq0 (sbytes s) ∧ Below w.heap.size w w' := by
  have HI := fun (w : World) (k : Nat) (hk : k < s.size) => run_sb (P := Try.prog) Try.underlying9 w s k hk k rfl
  have HZ := uq_zero
  have HB : Hid (∀ w : World, Blk ((w.alloc (.cells (ucells uq0) 79)).alloc (.cells (ucells uq0) 79)) (w.heap.size + 1) 79 (ucells uq0)) := fun w => Blk.freshAt _ _ _ _ (by simp)
  have HA : Hid (∀ w : World, Blk ((w.alloc (.cells (ucells uq0) 79)).alloc (.cells (ucells uq0) 79)) w.heap.size 79 (ucells uq0)) := fun w => (Blk.fresh _ _ _).alloc _
  have HL : Hid (∀ w : World, Below w.heap.size w ((w.alloc (.cells (ucells uq0) 79)).alloc (.cells (ucells uq0) 79))) := fun w => (below_alloc w _).alloc (by simp) _
  have HS := Lib.hid (length_sbytes s)
  obtain ⟨L, eL⟩ : ∃ L, sbytes s = L := ⟨_, rfl⟩
  have HE : Hid (∀ k, sb s k = L.getD k 0) := by unfold Hid sb; rw [eL]; exact fun _ => rfl
  rw [eL] at HS ⊢
  clear eL
  obtain ⟨E, eE⟩ : ∃ E, ucells uq0 = E := ⟨_, rfl⟩
  have HQ := Lib.hid eE
  rw [eE] at HZ HA HB HL
  clear eE
  go_enter Try.func37, Try.ntmps37
  go_wp2_with fail
  have ha := Lib.hid (HA.out w)
  have hb := Lib.hid (HB.out w)
  have hl := Lib.hid (HL.out w)
  clear HA HB HL HZ
  generalize (w.alloc (.cells E 79)).alloc (.cells E 79) = w2 at *
  go_loopw [8] (fun i wr => ∃ k : Nat, k ≤ s.size ∧ i = .int .i64 k ∧ (∀ j, j ≤ k → (ust uq0 L j).wr = false) ∧ Blk wr (w.heap.size + 1) 79 (ucells (ust uq0 L k)) ∧ Only (w.heap.size + 1) w2 wr) (fun i _ => s.size - (intOf i).toNat)
  case atStart => exact ⟨0, Nat.zero_le _, rfl, fun j hj => (by rw [show j = 0 by omega]; rfl), (by rw [ust_zero, HQ.out]; exact hb.out), Only.refl _ _⟩
  case round =>
    obtain ⟨k, hk, rfl, hw, hbk, ho⟩ := hrel
    by_cases hlt : k < s.size
    · have HT := Lib.hid (utf_step (ust uq0 L k) (sb s k) (by have := ust_left L k; omega) wr _ hbk)
      have hi := HI wr k hlt
      have HU := Lib.hid (ust_succ uq0 L k (by rw [HS.out]; exact hlt))
      rw [← HE.out k] at HU
      have HO := Lib.hid ho
      have HW := Lib.hid hw
      clear hbk hw ho HI
      rw [← HU.out] at HT
      generalize sb s k = c at *
      cases hq : (ust uq0 L (k + 1)).wr with
      | true =>
        rw [hq] at HT
        go_wp2_with fail
        refine HT.out.mono ?_
        rintro e w3 ⟨rfl, b3, o3⟩
        obtain ⟨c0, c1, c2, c3, _⟩ := ublk b3
        have A3 := ha.out.only (HO.out.trans o3) (by simp)
        rw [← HQ.out] at A3
        obtain ⟨a0, a1, a2, a3, fa⟩ := ublk A3
        have f0 := fa 0
        have f1 := fa 1
        have f2 := fa 2
        have f3 := fa 3
        clear fa b3
        obtain ⟨q, eq⟩ : ∃ q, ust uq0 L (k + 1) = q := ⟨_, rfl⟩
        have HQK := Lib.hid eq
        rw [eq] at c0 c1 c2 c3 hq
        clear eq
        have HX := Lib.hid (And.intro (uat_some k (by rw [HS.out]; exact hlt) (HW.out k (Nat.le_refl _)) (HQK.out ▸ hq)) (And.intro (udone_wr hq) (uok_wr (k := k + 1) (by rw [HS.out]; exact hlt) (HQK.out ▸ hq))))
        have hbw := Lib.hid ((hl.out.trans ((HO.out.trans o3).below (by omega) hl.out.size)))
        obtain ⟨n, l, u, b⟩ := q
        dsimp only at c0 c1 c2 c3 hq
        subst hq
        have B4 := Lib.hid (ublk_put A3 n l u true)
        have D4 := Lib.hid (below_put4 hbw.out (Nat.le_refl _) (.int .i64 n) (.int .u8 l) (.int .u8 u) (.bool true))
        clear HO HW HT HU o3 A3 hi ha hb hl
        go_wp2_with fail
        clear a0 a1 a2 a3 f0 f1 f2 f3 c0 c1 c2 c3
        generalize (((w3.setCell ⟨w.heap.size, 0, none⟩ (.int .i64 n)).setCell ⟨w.heap.size, 1, none⟩ (.int .u8 l)).setCell ⟨w.heap.size, 2, none⟩ (.int .u8 u)).setCell ⟨w.heap.size, 3, none⟩ (.bool true) = w4 at *
        obtain ⟨c0, c1, c2, c3, _⟩ := ublk B4.out
        refine bodyPost_ret (v := .tuple #[.agg (ucells ⟨n, l, u, true⟩), .int .i64 k]) (by simp [results, Try.results37, go_sem, ucells, c0, c1, c2, c3]) rfl ⟨⟨n, l, u, true⟩, ?_, ?_, ?_⟩
        · rw [HX.out.1]
        · rw [HX.out.2.1, HX.out.2.2]
        · exact D4.out
      | false =>
        rw [hq] at HT
        go_wp2_with fail
        refine HT.out.mono ?_
        rintro e w3 ⟨rfl, b3, o3⟩
        have B3 := Lib.hid b3
        have O3 := Lib.hid o3
        clear b3 o3 hi HT
        go_wp2_with fail
        go_roundw
        case rel => exact ⟨k + 1, by omega, by go_num, fun j hj => (by
          by_cases hjk : j ≤ k
          · exact HW.out j hjk
          · rw [show j = k + 1 by omega]; exact hq), B3.out, HO.out.trans O3.out⟩
        case measure => simp [intOf]; omega
    · have hk' : k = s.size := by omega
      subst hk'
      have hx := Lib.hid (uat_none (q := uq0) (l := L) (fun j hj => hw j (by rw [HS.out] at hj; exact hj)))
      have hu := Lib.hid (show uok uq0 L = udone (ust uq0 L s.size) by rw [← HS.out, ust_all]; rfl)
      obtain ⟨c0, c1, c2, c3, _⟩ := ublk hbk
      have A3 := ha.out.only ho (by simp)
      rw [← HQ.out] at A3
      obtain ⟨a0, a1, a2, a3, fa⟩ := ublk A3
      have f0 := fa 0
      have f1 := fa 1
      have f2 := fa 2
      have f3 := fa 3
      have hbw := Lib.hid (hl.out.trans (ho.below (by omega) hl.out.size))
      clear fa hbk ha hb hl hw ho HI
      generalize ust uq0 L s.size = q at *
      obtain ⟨n, l, u, b⟩ := q
      dsimp only at c0 c1 c2 c3
      have B4 := Lib.hid (ublk_put A3 n l u b)
      have D4 := Lib.hid (below_put4 hbw.out (Nat.le_refl _) (.int .i64 n) (.int .u8 l) (.int .u8 u) (.bool b))
      clear A3
      go_wp2_with fail
      clear a0 a1 a2 a3 f0 f1 f2 f3 c0 c1 c2 c3
      generalize (((wr.setCell ⟨w.heap.size, 0, none⟩ (.int .i64 n)).setCell ⟨w.heap.size, 1, none⟩ (.int .u8 l)).setCell ⟨w.heap.size, 2, none⟩ (.int .u8 u)).setCell ⟨w.heap.size, 3, none⟩ (.bool b) = w4 at *
      obtain ⟨c0, c1, c2, c3, _⟩ := ublk B4.out
      refine bodyPost_ret (v := .tuple #[.agg (ucells ⟨n, l, u, b⟩), .int .i64 (-1)]) (by simp [results, Try.results37, go_sem, ucells, c0, c1, c2, c3]) rfl ⟨⟨n, l, u, b⟩, ?_, hu.out.symm, ?_⟩
      · rw [hx.out]
      · exact D4.out
end Go.Proofs.Ytmihoeholcaokaa

/- Package utf: Valid, First. -/
namespace Go.Proofs.Ytmihoeholcaokaa
open Go.RowKit

theorem utf_valid (s : ByteArray) (hs : s.size ≤ 1000000000) (w : World) :
    Calls Try.prog 31 #[.string s] w fun e w' => e = .returned (.bool (uok uq0 (sbytes s))) ∧ Below w.heap.size w w' := by
  have HW := Lib.hid (utf_walk s hs)
  go_enter Try.func31, Try.ntmps31
  go_wp2_with fail
  refine (HW.out _).mono ?_
  rintro e w1 ⟨⟨n, l, u, b⟩, rfl, hd, h1⟩
  rw [show ucells ⟨n, l, u, b⟩ = #[.int .i64 n, .int .u8 l, .int .u8 u, .bool b] from rfl]
  have HD := Lib.hid (utf_done ⟨n, l, u, b⟩ (w1.alloc (.cells (ucells ⟨n, l, u, b⟩) 79)) w1.heap.size (Blk.fresh _ _ _))
  rw [hd] at HD
  go_wp2_with fail
  refine HD.out.mono ?_
  rintro e w' ⟨rfl, rfl⟩
  go_wp2_with fail
  go_ret
  exact ⟨rfl, h1.alloc h1.size _⟩
end Go.Proofs.Ytmihoeholcaokaa

/- Package item: formed, ranged. -/
namespace Go.Proofs.Ytmihoeholcaokaa
open Go.RowKit

/-- Is an item of a kind, with no other fields than it has? a, b: has it no number, no text; m: how many items. -/
def formK (k : Int) (a b : Bool) (m : Int) : Bool :=
  if k = 0 ∨ k = 1 ∨ k = 7 ∨ k = 8 then b && (m == 0) else if k = 2 ∨ k = 3 then a && (m == 0) else if k = 4 then a && b else if k = 5 then a && b && (m % 2 == 0) else if k = 6 then b && (m == 1) else false
def formB (t : It) : Bool := formK t.k (t.n == 0) t.s.toList.isEmpty t.l.length

set_option maxRecDepth 100000 in
set_option maxHeartbeats 4000000 in
theorem item_formed (t : It) (A : Option Addr) (cap : Nat) (w : World) :
    Calls Try.prog 44 #[vI t A cap] w fun e w' => e = .returned (.bool (formB t)) ∧ Below w.heap.size w w' := by
  obtain ⟨k, n, s, l⟩ := t
  obtain ⟨w1, hw1, b1, S⟩ := iblk1 w 39 #[.int .i64 k, .int .u64 n, .string s, .slice A l.length cap]
  obtain ⟨p0, p1, p2, p3, -⟩ := iblk b1
  have HS := Lib.hid S
  clear S b1
  simp only [vI, formB, It.k, It.n, It.s, It.l]
  obtain ⟨r, hr⟩ : ∃ r, formK k (n == 0) s.toList.isEmpty l.length = r := ⟨_, rfl⟩
  rw [hr]
  have HR := Lib.hid hr
  clear hr
  go_enter Try.func44, Try.ntmps44
  go_wp2_with fail
  go_quiet (fail)
  have HS2 := Lib.hid (below_drewN HS.out nq)
  have q0 : (w1.drewN nq).cell? ⟨w.heap.size, 0, none⟩ = some (.int .i64 k) := p0
  generalize w1.drewN nq = w2 at *
  generalize (n == 0) = a at *
  generalize s.toList.isEmpty = b at *
  have hm0 : (0 : Int) ≤ l.length := by omega
  generalize (l.length : Int) = m at *
  clear p0 p1 p2 p3 hw1
  rcases (by omega : k = 0 ∨ k = 1 ∨ k = 2 ∨ k = 3 ∨ k = 4 ∨ k = 5 ∨ k = 6 ∨ k = 7 ∨ k = 8 ∨ (k < 0 ∨ 8 < k)) with rfl | rfl | rfl | rfl | rfl | rfl | rfl | rfl | rfl | hk
  case' inr.inr.inr.inr.inr.inr.inr.inr.inr =>
    have e : formK k a b m = false := by
      unfold formK
      rw [if_neg (by omega), if_neg (by omega), if_neg (by omega), if_neg (by omega), if_neg (by omega)]
    rw [e] at HR
    have n0 : (k == 0) = false := by simp; omega
    have n1 : (k == 1) = false := by simp; omega
    have n2 : (k == 2) = false := by simp; omega
    have n3 : (k == 3) = false := by simp; omega
    have n4 : (k == 4) = false := by simp; omega
    have n5 : (k == 5) = false := by simp; omega
    have n6 : (k == 6) = false := by simp; omega
    have n7 : (k == 7) = false := by simp; omega
    have n8 : (k == 8) = false := by simp; omega
    clear hk e
    go_wp2_with fail
    go_ret
    exact ⟨by rw [← HR.out]; rfl, HS2.out⟩
  all_goals
    cases a <;> cases b <;> go_wp2_with fail
    all_goals go_ret
    all_goals exact ⟨by rw [← HR.out]; rfl, HS2.out⟩
end Go.Proofs.Ytmihoeholcaokaa

/- Package item: ranged. -/
namespace Go.Proofs.Ytmihoeholcaokaa
open Go.RowKit

def theNaN : Int := 9221120237041090560
/-- Has an item a number that its kind can have? -/
def rangB (t : It) : Bool := if t.k = 7 then decide (t.n < 24 ∨ (32 ≤ t.n ∧ t.n ≤ 255)) else if t.k = 8 then !decide (FNan 11 52 t.n.toNat) || (t.n == theNaN) else true

set_option maxRecDepth 100000 in
set_option maxHeartbeats 4000000 in
theorem item_ranged (t : It) (A : Option Addr) (cap : Nat) (w : World) (hn0 : 0 ≤ t.n) (hn1 : t.n < 18446744073709551616) :
    Calls Try.prog 45 #[vI t A cap] w fun e w' => e = .returned (.bool (rangB t)) ∧ Below w.heap.size w w' := by
  obtain ⟨k, n, s, l⟩ := t
  obtain ⟨w1, hw1, b1, S⟩ := iblk1 w 39 #[.int .i64 k, .int .u64 n, .string s, .slice A l.length cap]
  obtain ⟨p0, p1, p2, p3, -⟩ := iblk b1
  have HS := Lib.hid S
  simp only [It.n] at hn0 hn1
  by_cases h8 : k = 8
  · subst h8
    have hnn : ((n.toNat : Nat) : Int) = n := by omega
    have C := fun w => float_NaN n.toNat (by omega) w
    rw [hnn] at C
    have hr : rangB (It.mk 8 n s l) = (!decide (FNan 11 52 n.toNat) || (n == theNaN)) := rfl
    rw [hr]
    clear hr
    generalize decide (FNan 11 52 n.toNat) = b at *
    have HC := Lib.hid (C w1)
    clear S b1 hnn C hn0 hn1
    unfold theNaN
    simp only [vI, It.k, It.n, It.s, It.l]
    go_enter Try.func45, Try.ntmps45
    cases b
    · go_wp2_with (go_at_call 50; refine HC.out.mono ?_; rintro e w2 ⟨rfl, hb2⟩; have HB2 := Lib.hid (HS.out.trans (hb2.mono HS.out.size)); clear hb2)
      go_ret
      exact ⟨rfl, HB2.out⟩
    · go_wp2_with (go_at_call 50; refine HC.out.mono ?_; rintro e w2 ⟨rfl, hb2⟩; have p1' := (hb2.cell (p := ⟨w.heap.size, 1, none⟩) (block_lt_of_cell p1)).trans p1; have HB2 := Lib.hid (HS.out.trans (hb2.mono HS.out.size)); clear hb2)
      go_ret
      exact ⟨rfl, HB2.out⟩
  · by_cases h7 : k = 7
    · subst h7
      have hr : rangB (It.mk 7 n s l) = decide (n < 24 ∨ (32 ≤ n ∧ n ≤ 255)) := rfl
      rw [hr]
      obtain ⟨r, hq⟩ : ∃ r, decide (n < 24 ∨ (32 ≤ n ∧ n ≤ 255)) = r := ⟨_, rfl⟩
      rw [hq]
      have HQ := Lib.hid hq
      clear hr S b1 hn1 h8 hq
      simp only [vI, It.k, It.n, It.s, It.l]
      go_enter Try.func45, Try.ntmps45
      by_cases h1 : n < 24
      · go_wp2_with fail
        all_goals go_ret
        all_goals refine ⟨?_, HS.out⟩
        all_goals (rw [← HQ.out, decide_eq_true (p := n < 24 ∨ (32 ≤ n ∧ n ≤ 255)) (by omega)]; rfl)
      · by_cases h2 : 32 ≤ n
        · by_cases h3 : n ≤ 255
          · go_wp2_with fail
            all_goals go_ret
            all_goals refine ⟨?_, HS.out⟩
            all_goals (rw [← HQ.out, decide_eq_true (p := n < 24 ∨ (32 ≤ n ∧ n ≤ 255)) (by omega)]; rfl)
          · go_wp2_with fail
            all_goals go_ret
            all_goals refine ⟨?_, HS.out⟩
            all_goals (rw [← HQ.out, decide_eq_false (p := n < 24 ∨ (32 ≤ n ∧ n ≤ 255)) (by omega)]; rfl)
        · go_wp2_with fail
          all_goals go_ret
          all_goals refine ⟨?_, HS.out⟩
          all_goals (rw [← HQ.out, decide_eq_false (p := n < 24 ∨ (32 ≤ n ∧ n ≤ 255)) (by omega)]; rfl)
    · have hr : rangB (It.mk k n s l) = true := by
        show (if k = 7 then _ else if k = 8 then _ else true) = true
        rw [if_neg h7, if_neg h8]
      rw [hr]
      have n7 : (k == 7) = false := by simp; omega
      have n8 : (k == 8) = false := by simp; omega
      clear hr S b1 hn1 h8 h7
      simp only [vI, It.k, It.n, It.s, It.l]
      go_enter Try.func45, Try.ntmps45
      go_wp2_with fail
      go_ret
      exact ⟨rfl, HS.out⟩
end Go.Proofs.Ytmihoeholcaokaa
