/- Package schema: Leads. -/
import Derived.Test.YtgbbgdjdomkohaaKBK
import Derived.Deep.OwnRows
import Derived.Test.YtgbbgdjdomkohaaKBG
import Derived.Test.YtgbbgdjdomkohaaKAJ
namespace Go.Proofs.Ytgbbgdjdomkohaa
open Go.RowKit Go.Sort

/-- A table of answers. -/
def bls (bs : List Bool) : Array Value := (bs.map Value.bool).toArray
theorem bls_get (bs : List Bool) (i : Nat) (hi : i < bs.length) : (bls bs)[i]? = some (.bool (bs.getD i false)) := by
  simp [bls, hi, List.getD_eq_getElem?_getD]
theorem bls_put (bs : List Bool) (i : Nat) (u : Bool) : (bls bs).setIfInBounds i (.bool u) = bls (bs.set i u) := by
  apply Array.ext'
  simp [bls, List.map_set]
theorem bls_made (n : Nat) : madeCells #[Value.bool false] n = bls (List.replicate n false) := by
  apply Array.ext
  · simp [size_madeCells, bls]
  · intro i h1 h2
    simp [madeCells, bls, Nat.mod_one]
theorem infoBool : (Try.prog.info? 4).map (fun i => (i.zero, i.size, i.bytes)) = some (some (.bool false), 1, 1) := by kernel_rfl
/-- The table when the first k nodes have been looked at. -/
def Tab (xs : List Nd) (a k m : Nat) (bs : List Bool) : Prop := bs.length = m ∧ ∀ j, j < m → (bs.getD j false = true ↔ Led xs a k j)
theorem getD_set (bs : List Bool) (i j : Nat) (u : Bool) (hi : i < bs.length) : (bs.set i u).getD j false = if i = j then u else bs.getD j false := by
  rw [List.getD_eq_getElem?_getD, List.getD_eq_getElem?_getD, List.getElem?_set]
  split
  · rename_i e; subst e; simp
  · rfl
theorem Tab.start {xs : List Nd} (hw : Wf xs) {a m : Nat} (ha : a < m) : Tab xs a a m ((List.replicate m false).set a true) := by
  refine ⟨by simp, fun j hj => ?_⟩
  rw [getD_set _ _ _ _ (by simpa using ha), led_start hw]
  split
  · rename_i e; simp [e]
  · rename_i e
    simp [List.getD_eq_getElem?_getD, hj]
    omega
theorem Tab.no {xs : List Nd} {a k m : Nat} {bs : List Bool} (h : Tab xs a k m bs) (hl : ¬ Ld xs a k) : Tab xs a (k + 1) m bs := ⟨h.1, fun j hj => (h.2 j hj).trans (led_no hl).symm⟩
/-- .. and of the next node's names the first q. -/
def TabQ (xs : List Nd) (a k m q : Nat) (L : List Int) (bs : List Bool) : Prop := bs.length = m ∧ ∀ j : Nat, j < m → (bs.getD j false = true ↔ Led xs a k j ∨ (j : Int) ∈ L.take q)
theorem TabQ.start {xs : List Nd} {a k m : Nat} {L : List Int} {bs : List Bool} (h : Tab xs a k m bs) : TabQ xs a k m 0 L bs := ⟨h.1, fun j hj => by simpa using h.2 j hj⟩
theorem TabQ.step {xs : List Nd} {a k m q : Nat} {L : List Int} {bs : List Bool} {t : Nat} (h : TabQ xs a k m q L bs) (ht : L[q]? = some (t : Int)) (hm : t < m) : TabQ xs a k m (q + 1) L (bs.set t true) := by
  obtain ⟨hq, he⟩ := List.getElem?_eq_some_iff.1 ht
  refine ⟨by simpa using h.1, fun j hj => ?_⟩
  rw [getD_set _ _ _ _ (by rw [h.1]; exact hm), List.take_succ_eq_append_getElem hq, he, List.mem_append, List.mem_singleton, ← or_assoc, ← h.2 j hj]
  split
  · rename_i e; simp [e]
  · rename_i e
    constructor
    · exact .inl
    · rintro (h | h)
      · exact h
      · omega
theorem TabQ.done {xs : List Nd} {a k m : Nat} {x : Nd} {bs : List Bool} (h : TabQ xs a k m (namedN x).length (namedN x) bs) (hl : Ld xs a k) (hx : xs[k]? = some x) : Tab xs a (k + 1) m bs :=
  ⟨h.1, fun j hj => by rw [h.2 j hj, List.take_length, led_yes hl hx]⟩

/-- What Leads tells. -/
noncomputable def leadsL (xs : List Nd) (a : Int) : List Int := if a < 0 ∨ (xs.length : Int) ≤ a then [] else ldL xs a.toNat xs.length
set_option maxRecDepth 100000 in
set_option maxHeartbeats 4000000 in
theorem sch_Leads (xs : List Nd) (A : Option Addr) (cap n : Nat) (a : Int) (w : World) (hw : Wf xs) (ho : ∀ x ∈ xs, okN x) (hm : xs.length ≤ 1048576) (hn : n ≤ w.heap.size) (hx : RdN w n A xs) :
    Calls Try.prog 16 #[vS A xs cap, .int .i64 a] w fun e w' => (∃ v, e = .returned v ∧ Own w' w.heap.size .i64 3 v (leadsL xs a)) ∧ Below w.heap.size w w' := by
  obtain ⟨w1, hw1, b1, S⟩ := iblk1 w 24 #[.slice A xs.length cap]
  have hs1 : w1.heap.size = w.heap.size + 1 := by rw [← hw1]; simp
  have HS := Lib.hid S
  have p0 := sblk b1
  by_cases hbad : a < 0 ∨ (xs.length : Int) ≤ a
  · have HR : Hid (leadsL xs a = []) := Lib.hid (if_pos hbad)
    unfold vS
    clear hx hn ho hw b1 S
    generalize xs.length = m at *
    go_enter Try.func16, Try.ntmps16
    rcases hbad with h | h
    · go_wp2_with fail
      go_ret
      exact ⟨⟨_, rfl, by rw [HR.out]; exact Own.nil _ _ _ _⟩, HS.out⟩
    · have h' : ¬ a < 0 := by omega
      go_wp2_with fail
      go_ret
      exact ⟨⟨_, rfl, by rw [HR.out]; exact Own.nil _ _ _ _⟩, HS.out⟩
  obtain ⟨an, rfl⟩ : ∃ an : Nat, a = (an : Int) := ⟨a.toNat, by omega⟩
  have ham : an < xs.length := by omega
  have hres : leadsL xs (an : Int) = ldL xs an xs.length := by rw [leadsL, if_neg hbad]; rfl
  rw [hres]
  clear hres hbad
  have HML : Hid (xs.length ≤ 1048576) := Lib.hid hm
  have HF : Hid (∀ W, Below w1.heap.size w1 W → RdN W n A xs) := Lib.hid fun W hW => hx.keep ((S.trans (hW.mono S.size)).mono hn)
  have HNW : Hid (n ≤ w1.heap.size) := Lib.hid (Nat.le_trans hn S.size)
  have HOK := Lib.hid ho
  have HWF := Lib.hid hw
  have HB := Lib.hid b1
  have HUP : Hid (∀ W, Below w1.heap.size w1 W → Below w.heap.size w W) := Lib.hid fun W hW => S.trans (hW.mono S.size)
  obtain ⟨m, hml⟩ : ∃ m, xs.length = m := ⟨_, rfl⟩
  have HM := Lib.hid hml
  unfold vS
  rw [hml] at p0 hw1 hm HB ham ⊢
  have hmk := fun W => run_make_row' (P := Try.prog) 55 4 (.bool false) 1 Try.underlying55 infoBool rfl .i64 .i64 m (by omega) (by omega) W
  rw [bls_made] at hmk
  -- the table
  have bT := Blk.fresh w1 4 (bls (List.replicate m false))
  obtain ⟨w2, hw2⟩ : ∃ w2, w1.alloc (.cells (bls (List.replicate m false)) 4) = w2 := ⟨_, rfl⟩
  have S2 := below_alloc w1 (.cells (bls (List.replicate m false)) 4)
  rw [hw2] at bT S2
  rw [hs1] at bT
  have t0 : w2.cell? ⟨w.heap.size + 1, an, none⟩ = some (.bool false) := by
    rw [bT.cell, bls_get _ _ (by simpa using ham)]
    simp [List.getD_eq_getElem?_getD, ham]
  have t1 := bT.free an
  have b3 := bT.put an (.bool true)
  rw [bls_put] at b3
  have p2 : w2.cell? ⟨w.heap.size, 0, none⟩ = some (.slice A m cap) := sblk (HB.out.on S2)
  have S3 : Below w1.heap.size w1 (w2.setCell ⟨w.heap.size + 1, an, none⟩ (.bool true)) := S2.setCell (Nat.le_of_eq hs1) _
  have HTAB : Hid (Tab xs an an m ((List.replicate m false).set an true)) := Lib.hid (Tab.start hw (by omega))
  have HB3 := Lib.hid b3
  have HS3 := Lib.hid S3
  have HL0 : Hid (ldL xs an an = []) := Lib.hid (ldL_below hw an (Nat.le_refl _))
  have hmb : (m : Int) ≤ 1048576 := by omega
  have han : (an : Int) < m := by omega
  have han' : ¬ (m : Int) ≤ an := by omega
  have HG1 := Lib.hid hs1
  clear bT S2 b3 S3 hx ho hw b1 S hml hn ham
  go_enter Try.func16, Try.ntmps16
  go_wp2_with fail
  clear hw1 hw2 p0 p2 t0 t1 hmk
  generalize hw3 : w2.setCell ⟨w.heap.size + 1, an, none⟩ (.bool true) = w3 at *
  have hs1 := HG1.out
  go_loopw [6, 7] (fun v i wr => ∃ (k : Nat) (bs : List Bool), an ≤ k ∧ k ≤ m ∧ i = .int .i64 (k : Int) ∧ Hid (Below w1.heap.size w1 wr) ∧ Hid (Blk wr (w.heap.size + 1) 4 (bls bs)) ∧ Hid (Tab xs an k m bs) ∧ Hid (Own wr (w.heap.size + 2) .i64 3 v (ldL xs an k))) (fun _ i _ => m - (intOf i).toNat)
  case atStart => exact ⟨an, _, by omega, by omega, rfl, HS3, HB3, HTAB, Lib.hid (by rw [HL0.out]; exact Own.nil _ _ _ _)⟩
  case round =>
    obtain ⟨k, bs, hak, hk, rfl, HBr, HT, HTB, HO⟩ := hrel
    have s0 := sblk (HB.out.on HBr.out)
    by_cases hlt : k < m
    · have c0 : wr.cell? ⟨w.heap.size + 1, k, none⟩ = some (.bool (bs.getD k false)) := by rw [HT.out.cell, bls_get _ _ (by rw [HTB.out.1]; exact hlt)]
      have HLD : Hid (bs.getD k false = true ↔ Ld xs an k) := Lib.hid ((HTB.out.2 k hlt).trans (led_at HWF.out))
      generalize bs.getD k false = r at *
      cases r with
      | false =>
        have hno : ¬ Ld xs an k := fun h => by have := HLD.out.2 h; cases this
        have HN1 := Lib.hid (HTB.out.no hno)
        have HN2 : Hid (ldL xs an (k + 1) = ldL xs an k) := Lib.hid (ldL_no (ldB_false.2 hno))
        clear hno
        go_wp2_with fail
        go_roundw
        case rel => exact ⟨k + 1, bs, by omega, by omega, by simp, HBr, HT, HN1, Lib.hid (by rw [HN2.out]; exact HO.out)⟩
        case measure => simp [intOf]; omega
      | true =>
        have hyes := HLD.out.1 rfl
        have HY := Lib.hid hyes
        have HN2 : Hid (ldL xs an (k + 1) = ldL xs an k ++ [(k : Int)]) := Lib.hid (ldL_yes (ldB_true.2 hyes))
        clear hyes
        -- one more on the list
        have OW := HO.out.alloc (.cells #[.int .i64 (k : Int)] 3)
        have bN : Blk (wr.alloc (.cells #[.int .i64 (k : Int)] 3)) wr.heap.size 3 (nums .i64 [(k : Int)]) := Blk.fresh _ _ _
        have hgr : w.heap.size + 2 ≤ wr.heap.size := HT.out.lt
        obtain ⟨v', w4, hR, hO', hB', -⟩ := run_append_nums (P := Try.prog) (t := 35) (ty := 35) (cap := 1) Try.underlying35 infoInt (by decide) OW bN.rd (fun h => by cases h) (by
          have h1 := length_ldL (xs := xs) an k
          have h2 := HML.out
          have h3 := HM.out
          simp only [List.length_singleton]
          omega) (by simp; omega)
        simp only [List.length_singleton] at hR
        have HR := Lib.hid hR
        have HO4 : Hid (Own w4 (w.heap.size + 2) .i64 3 v' (ldL xs an (k + 1))) := Lib.hid (by rw [HN2.out]; exact hO')
        have hB4 : Below w1.heap.size w1 w4 := HBr.out.trans (((below_alloc wr _).mono HBr.out.size).trans (hB'.mono (by omega)))
        have HT4 : Hid (Blk w4 (w.heap.size + 1) 4 (bls bs)) := Lib.hid ((HT.out.alloc _).below hB' (by omega))
        have HB4 := Lib.hid hB4
        have s4 := sblk (HB.out.on hB4)
        have hk4 : k < xs.length := by rw [HM.out]; exact hlt
        obtain ⟨bb, oo, x, p, rfl, -, -, X, mX, hnd, c0', c1, c2, c3, c4, c5, c6, c7, c8⟩ := (HF.out w4 hB4).get (i := k) hk4
        have hox := HOK.out x mX
        have hn4 : n ≤ w4.heap.size := Nat.le_trans HNW.out hB4.size
        have HNM := Lib.hid (sch_Named x p n w4 hn4 hnd hox.lf)
        have HLL : Hid ((namedN x).length ≤ 1099511627776) := Lib.hid (by rw [length_namedN]; exact hox.lf)
        have HX := Lib.hid X
        have HNAMES : Hid (∀ t ∈ namedN x, (k : Int) < t ∧ t < m) := Lib.hid (by have := HWF.out k x X; rw [HM.out] at this; exact this)
        have HG4 : Hid (w.heap.size + 1 < w4.heap.size) := Lib.hid HT4.out.lt
        clear OW bN hR hO' hB' hB4 X mX hnd hox hn4 hgr hk4
        simp only [vN] at HNM
        go_wp2_with (first
          | ((with_reducible refine is_append 35 rfl ?_); (with_reducible refine wpList_append_run rfl rfl HR.out ?_ ?_ ?_); (· rfl); (· rfl))
          | (go_at_call 13; refine HNM.out.mono ?_; rintro e w5 ⟨⟨v5, rfl, hO⟩, hb5⟩; obtain ⟨A', cap', rfl, -, -, hX5⟩ := hO.rdx HG4.out; have HX5 := Lib.hid hX5; have HB5 := Lib.hid hb5; clear hb5 hO hX5)
          | fail)
        clear s0 c0 s4 c0' c1 c2 c3 c4 c5 c6 c7 c8
        have HT5 : Hid (Blk w5 (w.heap.size + 1) 4 (bls bs)) := Lib.hid (HT4.out.on HB5.out)
        have HO5 := Lib.hid (HO4.out.below HB5.out)
        have HB15 := Lib.hid (HB4.out.trans (HB5.out.mono HB4.out.size))
        have HD : Hid (∀ bs', TabQ xs an k m (namedN x).length (namedN x) bs' → Tab xs an (k + 1) m bs') := Lib.hid fun bs' h => h.done HY.out HX.out
        have HQ0 : Hid (TabQ xs an k m 0 (namedN x) bs) := Lib.hid (TabQ.start HTB.out)
        generalize namedN x = L at *
        obtain ⟨z, hz⟩ : ∃ z, L.length = z := ⟨_, rfl⟩
        have HZ := Lib.hid hz
        have hzb : (z : Int) ≤ 1099511627776 := by have := HLL.out; omega
        rw [hz]
        clear hz
        obtain ⟨wo, rfl⟩ : ∃ wo, wo = wr := ⟨_, rfl⟩
        go_loopw [50] (fun i wr => ∃ (q : Nat) (bs' : List Bool), q ≤ z ∧ i = .int .i64 (q : Int) ∧ Hid (Only (w.heap.size + 1) w5 wr) ∧ Hid (Blk wr (w.heap.size + 1) 4 (bls bs')) ∧ Hid (TabQ xs an k m q L bs')) (fun i _ => z - (intOf i).toNat)
        case atStart => exact ⟨0, bs, by omega, rfl, Lib.hid (Only.refl _ _), HT5, HQ0⟩
        case round =>
          obtain ⟨q, bs', hq, rfl, HON, HTq, HQq⟩ := hrel
          have hbq : Below w1.heap.size w1 wr := HB15.out.trans (HON.out.below (by omega) HB15.out.size)
          have s0 := sblk (HB.out.on hbq)
          have HBq := Lib.hid hbq
          clear hbq
          by_cases hqz : q < z
          · obtain ⟨b2, o2, t, e2, -, Y, d0⟩ := (HX5.out.only HON.out).rd.get' (i := q) (by rw [HZ.out]; exact hqz)
            subst e2
            obtain ⟨ht1, ht2⟩ := HNAMES.out t (List.mem_of_getElem? Y)
            obtain ⟨tn, rfl⟩ : ∃ tn : Nat, t = (tn : Int) := ⟨t.toNat, by omega⟩
            have htm : tn < m := by omega
            have htk : k < tn := by omega
            have g0 : wr.cell? ⟨w.heap.size + 1, tn, none⟩ = some (.bool (bs'.getD tn false)) := by rw [HTq.out.cell, bls_get _ _ (by rw [HQq.out.1]; exact htm)]
            have g1 := HTq.out.free tn
            have bq := HTq.out.put tn (.bool true)
            rw [bls_put] at bq
            have HTn := Lib.hid bq
            have HQn := Lib.hid (HQq.out.step Y htm)
            have HOn := Lib.hid (HON.out.put tn (.bool true))
            clear Y bq
            generalize bs'.getD tn false = old at *
            go_wp2_with fail
            go_roundw
            case rel => exact ⟨q + 1, _, by omega, by simp, HOn, HTn, HQn⟩
            case measure => simp [intOf]; omega
          · obtain rfl : q = z := by omega
            have HTN := Lib.hid (HD.out bs' (by rw [HZ.out]; exact HQq.out))
            go_wp2_with fail
            go_roundw
            case rel => exact ⟨k + 1, bs', by omega, by omega, by simp, HBq, HTq, HTN, Lib.hid (HO5.out.only HON.out (by omega))⟩
            case measure => simp [intOf]; omega
    · obtain rfl : k = m := by omega
      go_wp2_with fail
      go_ret
      refine ⟨⟨_, rfl, ?_⟩, HUP.out _ HBr.out⟩
      exact HO.out.mono (by omega)
end Go.Proofs.Ytgbbgdjdomkohaa

/- The document's Great, of schemas. -/
namespace Go.Proofs.Ytgbbgdjdomkohaa
open Go.RowKit

noncomputable def greatN (x : Nd) : Bool := decide (20 < x.l.length) || decide (20 < x.f.length) || greatB x.v || x.f.any (fun y => decide (300 < y.key.size))
noncomputable def greatS (xs : List Nd) : Bool := (xs.take 41).any greatN || decide (40 < xs.length)
theorem greatS_at {xs : List Nd} {k : Nat} {x : Nd} (hk : k ≤ 40) (h : xs[k]? = some x) (hg : greatN x = true) : greatS xs = true := by
  unfold greatS
  rw [List.any_eq_true.2 ⟨x, List.mem_of_getElem? (i := k) (by rw [List.getElem?_take, if_pos (by omega)]; exact h), hg⟩]
  rfl
theorem greatS_all {xs : List Nd} (h : ∀ j y, j ≤ 40 → xs[j]? = some y → greatN y = false) : greatS xs = decide (40 < xs.length) := by
  unfold greatS
  have : (xs.take 41).any greatN = false := by
    rw [Bool.eq_false_iff]
    intro ha
    obtain ⟨y, hy, hg⟩ := List.any_eq_true.1 ha
    obtain ⟨j, hj⟩ := List.mem_iff_getElem?.1 hy
    rw [List.getElem?_take] at hj
    split at hj
    · rw [h j y (by omega) hj] at hg
      cases hg
    · cases hj
  rw [this]
  rfl
theorem greatN_keys {x : Nd} {k : Nat} {y : Fl} (h : x.f[k]? = some y) (hs : 300 < y.key.size) : greatN x = true := by
  unfold greatN
  have : x.f.any (fun y => decide (300 < y.key.size)) = true := List.any_eq_true.2 ⟨y, List.mem_of_getElem? h, by simpa using hs⟩
  rw [this]
  simp
theorem greatN_none {x : Nd} (h1 : ¬ 20 < x.l.length) (h2 : ¬ 20 < x.f.length) (h3 : greatB x.v = false) (h4 : ∀ j y, j < x.f.length → x.f[j]? = some y → ¬ 300 < y.key.size) : greatN x = false := by
  unfold greatN
  have : x.f.any (fun y => decide (300 < y.key.size)) = false := by
    rw [Bool.eq_false_iff]
    intro ha
    obtain ⟨y, hy, hg⟩ := List.any_eq_true.1 ha
    obtain ⟨j, hj⟩ := List.mem_iff_getElem?.1 hy
    exact h4 j y (List.getElem?_eq_some_iff.1 hj).1 hj (by simpa using hg)
  rw [this, h3]
  simp [h1, h2]

set_option maxRecDepth 100000 in
set_option maxHeartbeats 8000000 in
theorem sref_Great (xs : List Nd) (A : Option Addr) (cap n : Nat) (w : World) (hn : n ≤ w.heap.size) (hx : RdN w n A xs) (ho : ∀ x ∈ xs, okN x) (hm : xs.length ≤ 1099511627776) :
    Calls Try.prog 6 #[vS A xs cap] w fun e w' => e = .returned (.bool (greatS xs)) ∧ Below w.heap.size w w' := by
  obtain ⟨w1, hw1, b1, S⟩ := iblk1 w 24 #[.slice A xs.length cap]
  have HF : Hid (∀ W, Below w.heap.size w W → RdN W n A xs) := Lib.hid fun W hW => hx.keep (hW.mono hn)
  have HOK := Lib.hid ho
  have HN := Lib.hid hn
  have HB := Lib.hid b1
  have HS := Lib.hid S
  have p0 := sblk b1
  have HUP : Hid (∀ W, Below w1.heap.size w1 W → Below w.heap.size w W) := Lib.hid fun W hW => S.trans (hW.mono S.size)
  obtain ⟨m, hml⟩ : ∃ m, xs.length = m := ⟨_, rfl⟩
  have HM := Lib.hid hml
  rw [hml] at p0 hw1 hm HB
  unfold vS
  rw [hml]
  clear b1 S hx hn ho hml
  obtain ⟨res, hres⟩ : ∃ r, greatS xs = r := ⟨_, rfl⟩
  rw [hres]
  have HRES := Lib.hid hres
  clear hres
  go_enter Try.func6, Try.ntmps6
  go_wp2_with fail
  go_loopw [3] (fun i wr => ∃ k : Nat, k ≤ m ∧ k ≤ 41 ∧ i = .int .i64 (k : Int) ∧ Hid (Below w1.heap.size w1 wr) ∧ Hid (∀ j y, j < k → xs[j]? = some y → greatN y = false)) (fun i _ => m - (intOf i).toNat)
  case atStart => exact ⟨0, by omega, by omega, rfl, Lib.hid (Below.refl _ _), Lib.hid fun j y hj => absurd hj (by omega)⟩
  case round =>
    obtain ⟨k, hk, hk', rfl, HBr, HE⟩ := hrel
    have s0 := sblk (HB.out.on HBr.out)
    by_cases hlt : k < m ∧ k ≤ 40
    · obtain ⟨hlt, hk40⟩ := hlt
      obtain ⟨b, o, x, p, rfl, hbn, hbw, X, mX, hnd, c0, c1, c2, c3, c4, c5, c6, c7, c8⟩ := (HF.out wr (HUP.out _ HBr.out)).get (i := k) (by rw [HM.out]; exact hlt)
      obtain ⟨Av, cv, Al, cl, Af, cf⟩ := p
      have hox := HOK.out x mX
      have hnr : n ≤ wr.heap.size := Nat.le_trans HN.out (HUP.out _ HBr.out).size
      have hcnt := hox.v.1
      have HG := Lib.hid (fun W (hW : Below wr.heap.size wr W) => ref_Great x.v Av cv n W (by omega) (Nat.le_trans hnr hW.size) (hnd.v.keep (hW.mono hnr)))
      have HFX : Hid (∀ W, Below wr.heap.size wr W → RdF W n Af x.f) := Lib.hid fun W hW => hnd.f.keep (hW.mono hnr)
      have HX := Lib.hid X
      obtain ⟨q, hq⟩ : ∃ q, x.f.length = q := ⟨_, rfl⟩
      have hqb : (q : Int) ≤ 1099511627776 := by have := hox.lf; omega
      have HQ := Lib.hid hq
      obtain ⟨wa, hwa⟩ : ∃ wa, wr.alloc (.cells (nc x ⟨Av, cv, Al, cl, Af, cf⟩) 43) = wa := ⟨_, rfl⟩
      have ba := Blk.fresh wr 43 (nc x ⟨Av, cv, Al, cl, Af, cf⟩)
      have Sa := below_alloc wr (.cells (nc x ⟨Av, cv, Al, cl, Af, cf⟩) 43)
      rw [hwa] at ba Sa
      have HSA := Lib.hid Sa
      have HU1 : Hid (∀ W, Below wa.heap.size wa W → Below w1.heap.size w1 W) := Lib.hid fun W hW => (HBr.out.trans (Sa.mono HBr.out.size)).trans (hW.mono (Nat.le_trans HBr.out.size Sa.size))
      have HU2 : Hid (∀ W, Below wa.heap.size wa W → Below wr.heap.size wr W) := Lib.hid fun W hW => Sa.trans (hW.mono Sa.size)
      have HBA : Hid (∀ W, Below wa.heap.size wa W → Blk W wr.heap.size 43 #[.int .i64 x.k, .int .i64 x.lo, .int .i64 x.hi, .int .i64 x.v.k, .int .u64 x.v.n, .string x.v.s, .slice Av x.v.l.length cv, .slice Al x.l.length cl, .slice Af q cf]) := Lib.hid fun W hW => by rw [← hq]; exact ba.on hW
      obtain ⟨p0', p1', p2', p3', p4', p5', p6', p7', p8'⟩ := nblk (HBA.out wa (Below.refl _ _))
      unfold nc at hwa
      simp only at hwa c6 c7 c8
      rw [hq] at hwa c8
      obtain ⟨g, hg⟩ : ∃ g, greatB x.v = g := ⟨_, rfl⟩
      rw [hg] at HG
      have HGG := Lib.hid hg
      obtain ⟨ll, hll⟩ : ∃ l, x.l.length = l := ⟨_, rfl⟩
      have HLL := Lib.hid hll
      rw [hll] at hwa c7 p7' HBA
      have e40 : (k : Int) ≤ 40 := by omega
      clear X mX hnd hox hnr hbn hbw hcnt ba Sa hq hg hll
      simp only [vI] at HG
      have TR : Hid (greatN x = true → res = true) := Lib.hid fun h => HRES.out.symm.trans (greatS_at hk40 HX.out h)
      by_cases h1 : 20 < ll
      · have HR : Hid (res = true) := Lib.hid (TR.out (by unfold greatN; rw [HLL.out]; simp [h1]))
        have e1 : (20 : Int) < ll := by omega
        clear h1
        go_wp2_with fail
        go_ret
        exact ⟨by rw [HR.out]; rfl, HUP.out _ (HU1.out _ (Below.refl _ _))⟩
      have e1 : ¬ (20 : Int) < ll := by omega
      by_cases h2 : 20 < q
      · have HR : Hid (res = true) := Lib.hid (TR.out (by unfold greatN; rw [HQ.out]; simp [h2]))
        have e2 : (20 : Int) < q := by omega
        clear h1 h2
        go_wp2_with fail
        go_ret
        exact ⟨by rw [HR.out]; rfl, HUP.out _ (HU1.out _ (Below.refl _ _))⟩
      have e2 : ¬ (20 : Int) < q := by omega
      have HLQ := Lib.hid (And.intro h1 h2)
      clear h1 h2
      cases g with
      | true =>
        have HR : Hid (res = true) := Lib.hid (TR.out (by unfold greatN; rw [HGG.out]; simp))
        go_wp2_with (first
          | (go_at_call 17; refine (HG.out _ HSA.out).mono ?_; rintro e w3 ⟨rfl, hb3⟩; have HB3 := Lib.hid (HU1.out _ hb3); clear hb3)
          | fail)
        go_ret
        exact ⟨by rw [HR.out]; rfl, HUP.out _ HB3.out⟩
      | false =>
        go_wp2_with (first
          | (go_at_call 17; refine (HG.out _ HSA.out).mono ?_; rintro e w3 ⟨rfl, hb3⟩; have HB3 := Lib.hid hb3; clear hb3)
          | fail)
        clear p0' p1' p2' p3' p4' p5' p6' p7' p8' hwa c0 c1 c2 c3 c4 c5 c6 c7 c8 s0
        obtain ⟨wo, rfl⟩ : ∃ wo, wo = wr := ⟨_, rfl⟩
        go_loopw [5] (fun v wr => ∃ j : Nat, j ≤ q ∧ v = .int .i64 (j : Int) ∧ Hid (Below wa.heap.size wa wr) ∧ Hid (∀ t y, t < j → x.f[t]? = some y → ¬ 300 < y.key.size)) (fun v _ => q - (intOf v).toNat)
        case atStart => exact ⟨0, by omega, rfl, HB3, Lib.hid fun t y ht => absurd ht (by omega)⟩
        case round =>
          obtain ⟨j, hj, rfl, HBj, HEj⟩ := hrel
          obtain ⟨-, -, -, -, -, -, -, -, a8⟩ := nblk (HBA.out _ HBj.out)
          by_cases hjq : j < q
          · obtain ⟨bf, of, fd, rfl, -, -, Y, d0, -, -⟩ := (HFX.out _ (HU2.out _ HBj.out)).get (i := j) (by rw [HQ.out]; exact hjq)
            have HY := Lib.hid Y
            clear Y
            by_cases h3 : 300 < fd.key.size
            · have HR : Hid (res = true) := Lib.hid (TR.out (greatN_keys HY.out h3))
              have e3 : (300 : Int) < (fd.key.size : Int) := by omega
              clear h3
              go_wp2_with fail
              go_ret
              exact ⟨by rw [HR.out]; rfl, HUP.out _ (HU1.out _ HBj.out)⟩
            · have e3 : ¬ (300 : Int) < (fd.key.size : Int) := by omega
              have H3 := Lib.hid h3
              clear h3
              go_wp2_with fail
              go_roundw
              case rel => exact ⟨j + 1, by omega, by simp, HBj, Lib.hid fun t y ht hy => by
                by_cases e : t = j
                · subst e
                  rw [HY.out] at hy
                  injection hy with hy
                  rw [← hy]
                  exact H3.out
                · exact HEj.out t y (by omega) hy⟩
              case measure => simp [intOf]; omega
          · obtain rfl : j = q := by omega
            have HNX : Hid (greatN x = false) := Lib.hid (greatN_none (by rw [HLL.out]; exact HLQ.out.1) (by rw [HQ.out]; exact HLQ.out.2) HGG.out (by rw [HQ.out]; exact HEj.out))
            go_wp2_with fail
            go_roundw
            case rel => exact ⟨k + 1, by omega, by omega, by simp, Lib.hid (HU1.out _ HBj.out), Lib.hid fun t y ht hy => by
              by_cases e : t = k
              · subst e
                rw [HX.out] at hy
                injection hy with hy
                rw [← hy]
                exact HNX.out
              · exact HE.out t y (by omega) hy⟩
            case measure => simp [intOf]; omega
    · have HR : Hid (res = decide (40 < m)) := Lib.hid (by
        rw [← HRES.out, ← HM.out]
        refine greatS_all fun j y hj hy => HE.out j y ?_ hy
        have := (List.getElem?_eq_some_iff.1 hy).1
        rw [HM.out] at this
        omega)
      by_cases h1 : k < m
      · have e1 : ¬ (k : Int) ≤ 40 := by omega
        have e2 : (40 : Int) < m := by omega
        have HR' : Hid (res = true) := Lib.hid (by rw [HR.out]; simp; omega)
        clear hlt
        go_wp2_with fail
        go_ret
        exact ⟨by rw [HR'.out]; first | rfl | simp [e2], HUP.out _ HBr.out⟩
      · obtain rfl : k = m := by omega
        clear hlt
        go_wp2_with fail
        go_ret
        exact ⟨by rw [HR.out]; simp; omega, HUP.out _ HBr.out⟩
end Go.Proofs.Ytgbbgdjdomkohaa
