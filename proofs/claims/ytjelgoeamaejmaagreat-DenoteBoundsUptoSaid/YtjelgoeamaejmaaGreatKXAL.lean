/- Package denote: the rule of a record, called. -/
import Derived.Test.YtjelgoeamaejmaaGreatKXAK
namespace Go.Proofs.YtjelgoeamaejmaaGreat
open Go.RowKit

/-- A key by itself, the number 2j: is it a field's, its value right? -/
noncomputable def recStep (fs : List Fl) (Rf : Nat → Nat → Bool) (l : List It) (c u : Nat) : Bool := match l[u]? with
  | none => false
  | some key => decide (key.k = 3) && (match fM fs key.s with
    | none => false
    | some f => Rf f.node.toNat (c + u + 1))
noncomputable def recReq (fs : List Fl) (l : List It) (u : Nat) : Nat := match l[u]? with
  | none => 0
  | some key => match fM fs key.s with
    | none => 0
    | some f => if f.opt = true then 0 else 1
noncomputable def recCount (fs : List Fl) (l : List It) : Nat → Nat
  | 0 => 0
  | j + 1 => recCount fs l j + recReq fs l (2 * j)
def recAll (f : Nat → Bool) : Nat → Bool
  | 0 => true
  | j + 1 => recAll f j && f (2 * j)
theorem recAll_false {f : Nat → Bool} {j : Nat} (h : f (2 * j) = false) : ∀ {k : Nat}, j < k → recAll f k = false
  | k + 1, hk => by
    unfold recAll
    by_cases e : j = k
    · subst e; rw [h, Bool.and_false]
    · rw [recAll_false h (by omega : j < k), Bool.false_and]
theorem recCount_le (fs : List Fl) (l : List It) : ∀ j, recCount fs l j ≤ j
  | 0 => Nat.le_refl _
  | j + 1 => by
    have := recCount_le fs l j
    have h : recReq fs l (2 * j) ≤ 1 := by
      unfold recReq
      split
      · omega
      · split
        · omega
        · split <;> omega
    unfold recCount
    omega
noncomputable def recR (fs : List Fl) (Rf : Nat → Nat → Bool) (x : It) (c : Nat) : Bool :=
  decide (x.k = 5) && (recAll (recStep fs Rf x.l c) (x.l.length / 2) && decide (recCount fs x.l (x.l.length / 2) = needF fs))
theorem recR_kind {fs : List Fl} {Rf : Nat → Nat → Bool} {x : It} {c : Nat} (h : ¬ x.k = 5) : recR fs Rf x c = false := by unfold recR; rw [decide_eq_false h, Bool.false_and]
theorem recR_stop {fs : List Fl} {Rf : Nat → Nat → Bool} {x : It} {c j : Nat} (hj : j < x.l.length / 2) (h : recStep fs Rf x.l c (2 * j) = false) : recR fs Rf x c = false := by
  unfold recR
  rw [recAll_false h hj, Bool.false_and, Bool.and_false]
theorem recR_end {fs : List Fl} {Rf : Nat → Nat → Bool} {x : It} {c : Nat} (hk : x.k = 5) (h : recAll (recStep fs Rf x.l c) (x.l.length / 2) = true) : recR fs Rf x c = decide (recCount fs x.l (x.l.length / 2) = needF fs) := by
  unfold recR
  rw [h, decide_eq_true hk, Bool.true_and, Bool.true_and]
set_option maxRecDepth 100000 in
set_option maxHeartbeats 8000000 in
theorem den_rec1 (fs : List Fl) (q : Pt) (at_ : Int) (c gm gs g6 bm B H cm g n m lo nn : Nat) (R : Nat → Nat → Bool) (w : World) (hgs : Blk w gs 59 #[standsV cm]) (hgm : Blk w gm 104 #[.map (some bm)]) (hg6 : Blk w g6 3 #[.int .i64 (needF fs : Int)]) (hM : MapF w bm fs.length (fM fs))
    (hT : Tbl w B H cm g n m lo R) (hat : AtB w nn q.x q.A q.cap) (hnn : nn ≤ w.heap.size) (hfs : ∀ f ∈ fs, (lo : Int) ≤ f.node ∧ f.node < (n : Int)) (hnl : n ≤ 1048576) (hfl : fs.length ≤ 1048576) (hit : q.it = c) (hcm : ∀ i, i < q.x.l.length → c + i < m) (hmm : m ≤ 1000000000) (hll : q.x.l.length ≤ 1000000000) (hev : q.x.k = 5 → q.x.l.length % 2 = 0) (hsz : ∀ y ∈ q.x.l, y.s.size ≤ 1048576) :
    Calls Tryz.prog 76 (#[vP q, .int .i64 at_] ++ #[.pointer (some ⟨gm, 0, none⟩), .pointer (some ⟨gs, 0, none⟩), .pointer (some ⟨g6, 0, none⟩)]) w fun e w' => e = .returned (.bool (recR fs R q.x c)) ∧ Below w.heap.size w w' := by
  obtain ⟨x, A, cap, it⟩ := q
  dsimp only at hat hit hcm hll hev hsz ⊢
  subst hit
  obtain ⟨w1, hw1, b1, S⟩ := iblk1 w 77 #[.int .i64 x.k, .int .u64 x.n, .string x.s, .slice A x.l.length cap, .int .i64 (c : Int)]
  have HS := Lib.hid S
  have HGS := Lib.hid (hgs.on S)
  have HGM := Lib.hid (hgm.on S)
  have HG6 := Lib.hid (hg6.on S)
  have HMP := Lib.hid (hM.on S)
  have HT := Lib.hid (hT.on S)
  have HAT := Lib.hid (hat.keep (S.mono hnn))
  have HNN := Lib.hid (Nat.le_trans hnn S.size)
  have HBX := Lib.hid b1
  have HFS := Lib.hid hfs
  have HCM := Lib.hid hcm
  have HEV := Lib.hid hev
  have HSZ := Lib.hid hsz
  have HFZ := fl_zero
  have HZI := item_zero4
  obtain ⟨q0, q1, q2, q3, q4⟩ : w1.cell? ⟨w.heap.size, 0, none⟩ = some (.int .i64 x.k) ∧ w1.cell? ⟨w.heap.size, 1, none⟩ = some (.int .u64 x.n) ∧ w1.cell? ⟨w.heap.size, 2, none⟩ = some (.string x.s) ∧ w1.cell? ⟨w.heap.size, 3, none⟩ = some (.slice A x.l.length cap) ∧ w1.cell? ⟨w.heap.size, 4, none⟩ = some (.int .i64 (c : Int)) := ⟨by rw [b1.cell]; rfl, by rw [b1.cell]; rfl, by rw [b1.cell]; rfl, by rw [b1.cell]; rfl, by rw [b1.cell]; rfl⟩
  have HRN := Lib.hid (fun h => recR_kind (fs := fs) (Rf := R) (x := x) (c := c) h)
  have HRS := Lib.hid (fun j h1 h2 => recR_stop (fs := fs) (Rf := R) (x := x) (c := c) (j := j) h1 h2)
  have HRE := Lib.hid (fun h1 h2 => recR_end (fs := fs) (Rf := R) (x := x) (c := c) h1 h2)
  unfold vP
  dsimp only
  clear hgs hgm hg6 hM hT hat hnn hfs hcm hev hsz S b1
  show Calls Tryz.prog 76 #[.agg #[.int .i64 x.k, .int .u64 x.n, .string x.s, .slice A x.l.length cap, .int .i64 (c : Int)], .int .i64 at_, .pointer (some ⟨gm, 0, none⟩), .pointer (some ⟨gs, 0, none⟩), .pointer (some ⟨g6, 0, none⟩)] w _
  generalize recR fs R x c = res at *
  go_enter Tryz.func76, Tryz.ntmps76
  by_cases hk : x.k = 5
  · have HE2 := Lib.hid (HEV.out hk)
    obtain ⟨L, hL⟩ : ∃ L, x.l.length = L := ⟨_, rfl⟩
    have HL := Lib.hid hL
    rw [hL] at q3 hll hw1 ⊢
    rw [hk] at q0 hw1 ⊢
    have HK5 := Lib.hid hk
    have hLi : (L : Int) ≤ 1000000000 := by omega
    clear hL hk
    go_wp2_with fail
    go_loopw [8, 9] (fun a i W => ∃ (j u : Nat), Hid (u = 2 * j) ∧ i = .int .i64 (u : Int) ∧ a = .int .i64 (recCount fs x.l j : Int) ∧ (u : Int) ≤ (L : Int) ∧ Hid (recAll (recStep fs R x.l c) j = true) ∧ Hid (Below w1.heap.size w1 W)) (fun _ i _ => L - (intOf i).toNat)
    case atStart => exact ⟨0, 0, Lib.hid rfl, rfl, rfl, by omega, Lib.hid rfl, Lib.hid (Below.refl _ _)⟩
    case round =>
      obtain ⟨j, u, HU, rfl, rfl, hul, HA, HB⟩ := hrel
      by_cases hlt : (u : Int) < (L : Int)
      · have HJ : Hid (j < x.l.length / 2) := Lib.hid (by have h1 := HL.out; have h2 := HE2.out; have h3 := HU.out; omega)
        have HUP := Lib.hid (HS.out.trans (HB.out.mono HS.out.size))
        have r0 := (HB.out.cell (p := ⟨w.heap.size, 3, none⟩) (block_lt_of_cell q3)).trans q3
        have r4 := (HB.out.cell (p := ⟨w.heap.size, 4, none⟩) (block_lt_of_cell q4)).trans q4
        obtain ⟨b, o, X, A', cap', hA, -, -, hX, hXm, e0, e1, e2, e3, -⟩ := (HAT.out.keep (HB.out.mono HNN.out)).item (i := u) (by have := HL.out; omega)
        subst hA
        have hXs := HSZ.out X hXm
        obtain ⟨y, hy⟩ : ∃ y, (fM fs X.s).getD zFl = y := ⟨_, rfl⟩
        have HY := Lib.hid hy
        obtain ⟨ok, hok⟩ : ∃ ok, (fM fs X.s).isSome = ok := ⟨_, rfl⟩
        have HOK := Lib.hid hok
        have HXX := Lib.hid hX
        have b0 : Blk (wr.alloc (.cells #[.int .i64 0, .int .u64 0, .string ⟨#[]⟩, .slice none 0 0] 28)) wr.heap.size 28 #[.int .i64 0, .int .u64 0, .string ⟨#[]⟩, .slice none 0 0] := Blk.fresh _ _ _
        have S0 := below_alloc wr (.cells #[.int .i64 0, .int .u64 0, .string ⟨#[]⟩, .slice none 0 0] 28)
        obtain ⟨wZ, hwZ5⟩ : ∃ wZ, wr.alloc (.cells #[.int .i64 0, .int .u64 0, .string ⟨#[]⟩, .slice none 0 0] 28) = wZ := ⟨_, rfl⟩
        rw [hwZ5] at b0 S0
        have hst0 := run_store_all (P := Tryz.prog) (ty := 28) (c' := #[.int .i64 X.k, .int .u64 X.n, .string X.s, .slice A' X.l.length cap']) b0 item_info4 rfl (by simp [Value.oneCell'])
        have b5 := b0.setRow #[.int .i64 X.k, .int .u64 X.n, .string X.s, .slice A' X.l.length cap']
        have S5 := below_row S0 (Nat.le_refl _) #[.int .i64 X.k, .int .u64 X.n, .string X.s, .slice A' X.l.length cap']
        generalize wZ.setRow wr.heap.size #[.int .i64 X.k, .int .u64 X.n, .string X.s, .slice A' X.l.length cap'] = w5 at *
        have HST5 := Lib.hid hst0
        clear b0 S0 hst0
        have hlk := ((HMP.out.on HB.out).on S5).look (s := X.s) (by unfold maxLen; omega)
        rw [hy, hok] at hlk
        unfold fV at hlk
        have b0 : Blk (w5.alloc (.cells #[.string ⟨#[]⟩, .int .i64 0, .bool false] 53)) w5.heap.size 53 #[.string ⟨#[]⟩, .int .i64 0, .bool false] := Blk.fresh _ _ _
        have S0 := below_alloc w5 (.cells #[.string ⟨#[]⟩, .int .i64 0, .bool false] 53)
        obtain ⟨wY, hwZ6⟩ : ∃ wY, w5.alloc (.cells #[.string ⟨#[]⟩, .int .i64 0, .bool false] 53) = wY := ⟨_, rfl⟩
        rw [hwZ6] at b0 S0
        have hst0 := run_store_all (P := Tryz.prog) (ty := 53) (c' := #[.string y.key, .int .i64 y.node, .bool y.opt]) b0 fl_info rfl (by simp [Value.oneCell'])
        have b6 := b0.setRow #[.string y.key, .int .i64 y.node, .bool y.opt]
        have S6 := below_row S0 (Nat.le_refl _) #[.string y.key, .int .i64 y.node, .bool y.opt]
        generalize wY.setRow w5.heap.size #[.string y.key, .int .i64 y.node, .bool y.opt] = w6 at *
        have HST6 := Lib.hid hst0
        clear b0 S0 hst0
        have H56 := S5.mono (Nat.le_refl wr.heap.size)
        have HB6 := Lib.hid ((HB.out.trans (S5.mono HB.out.size)).trans (S6.mono (HB.out.trans (S5.mono HB.out.size)).size))
        obtain ⟨i0, i1, i2, i3, -⟩ := iblk b5
        obtain ⟨t0, t1, t2, t3, -⟩ := iblk (b5.on S6)
        obtain ⟨f0, f1, f2⟩ : w6.cell? ⟨w5.heap.size, 0, none⟩ = some (.string y.key) ∧ w6.cell? ⟨w5.heap.size, 1, none⟩ = some (.int .i64 y.node) ∧ w6.cell? ⟨w5.heap.size, 2, none⟩ = some (.bool y.opt) := ⟨by rw [b6.cell]; rfl, by rw [b6.cell]; rfl, by rw [b6.cell]; rfl⟩
        have m5 : w5.cell? ⟨gm, 0, none⟩ = some (.map (some bm)) := by rw [((HGM.out.on HB.out).on S5).cell]; rfl
        have g6' : w6.cell? ⟨gs, 0, none⟩ = some (standsV cm) := by rw [(HGS.out.on HB6.out).cell]; rfl
        have c6 : w6.cell? ⟨w.heap.size, 4, none⟩ = some (.int .i64 (c : Int)) := (HB6.out.cell (p := ⟨w.heap.size, 4, none⟩) (block_lt_of_cell q4)).trans q4
        have HT6 := Lib.hid (HT.out.on HB6.out)
        unfold standsV at g6'
        have HB6W := Lib.hid (HS.out.trans (HB6.out.mono HS.out.size))
        have hci : (c : Int) ≤ 1000000000 := by have h1 := HCM.out u (by have := HL.out; omega); omega
        have hui : (u : Int) ≤ 1000000000 := by omega
        obtain ⟨rc, hrc⟩ : ∃ rc, recCount fs x.l j = rc := ⟨_, rfl⟩
        have hrl : (rc : Int) ≤ 1000000000 := by have := recCount_le fs x.l j; have h3 := HU.out; omega
        have HRC := Lib.hid hrc
        rw [hrc]
        have w1e : wrap64 ((c : Int) + u) = (c : Int) + u := by unfold wrap64; omega
        have w2e : wrap64 ((c : Int) + u + 1) = (c : Int) + u + 1 := by clear w1e; unfold wrap64; omega
        clear hy hok hX hXm hXs S5 S6 b5 b6 H56 hrc
        by_cases hk3 : X.k = 3
        · cases ok with
          | false =>
            have HF : Hid (res = false) := Lib.hid (HRS.out j HJ.out (by
              have h1 := HOK.out
              unfold recStep
              rw [← HU.out, HXX.out]
              dsimp only
              cases hh : fM fs X.s with
              | none => simp
              | some z => rw [hh] at h1; cases h1))
            rw [hk3] at i0 t0 e0 HST5
            clear hk3
            go_wp2_with (first
              | ((with_reducible refine is_store 28 rfl ?_); (with_reducible refine wpList_store_run rfl rfl HST5.out ?_ ?_ ?_); (· rfl); (· rfl))
              | ((with_reducible refine is_store 53 rfl ?_); (with_reducible refine wpList_store_run rfl rfl HST6.out ?_ ?_ ?_); (· rfl); (· rfl))
              | fail)
            go_ret
            exact ⟨by rw [HF.out]; rfl, HB6W.out⟩
          | true =>
            have HFM : Hid (fM fs X.s = some y) := Lib.hid (by
              have h1 := HOK.out
              have h2 := HY.out
              cases hh : fM fs X.s with
              | none => rw [hh] at h1; cases h1
              | some z => rw [hh] at h2; exact congrArg some h2)
            obtain ⟨hy1, hy2⟩ := HFS.out y (fM_mem HFM.out)
            have HSD : Hid (Calls Tryz.prog 34 #[.int .i64 y.node, .int .i64 ((c : Int) + u + 1), .pointer (some ⟨cm, 0, none⟩)] w6 fun e w' => e = .returned (.bool (R y.node.toNat (c + u + 1))) ∧ w' = w6) := Lib.hid (by
              have hpl := HCM.out (u + 1) (by have h1 := HL.out; have h2 := HE2.out; have h3 := HU.out; omega)
              have h := den_stands w6 HT6.out y.node.toNat (c + u + 1) (by omega) (by omega) (by omega)
              rw [show ((y.node.toNat : Nat) : Int) = y.node by omega, show ((c + u + 1 : Nat) : Int) = (c : Int) + u + 1 by omega] at h
              exact h)
            have HST : Hid (recStep fs R x.l c (2 * j) = R y.node.toNat (c + u + 1)) := Lib.hid (by
              unfold recStep
              rw [← HU.out, HXX.out]
              dsimp only
              rw [HFM.out, decide_eq_true hk3, Bool.true_and])
            have HQ : Hid (recCount fs x.l (j + 1) = rc + if y.opt = true then 0 else 1) := Lib.hid (by
              show recCount fs x.l j + recReq fs x.l (2 * j) = _
              rw [HRC.out]
              unfold recReq
              rw [← HU.out, HXX.out]
              dsimp only
              rw [HFM.out])
            have hL2 : (u : Int) + 2 ≤ (L : Int) := by have h2 := HE2.out; have h3 := HU.out; have h1 := HL.out; omega
            obtain ⟨bb, hbb⟩ : ∃ bb, R y.node.toNat (c + u + 1) = bb := ⟨_, rfl⟩
            rw [hbb] at HSD HST
            rw [hk3] at i0 t0 e0 HST5
            clear hk3 hbb hy1 hy2
            cases bb with
            | false =>
              have HF : Hid (res = false) := Lib.hid (HRS.out j HJ.out HST.out)
              go_wp2_with (first
                | ((with_reducible refine is_store 28 rfl ?_); (with_reducible refine wpList_store_run rfl rfl HST5.out ?_ ?_ ?_); (· rfl); (· rfl))
                | ((with_reducible refine is_store 53 rfl ?_); (with_reducible refine wpList_store_run rfl rfl HST6.out ?_ ?_ ?_); (· rfl); (· rfl))
                | (go_at_call 34; refine HSD.out.mono ?_; rintro e w7 ⟨rfl, rfl⟩)
                | fail)
              go_ret
              exact ⟨by rw [HF.out]; rfl, HB6W.out⟩
            | true =>
              have HA2 : Hid (recAll (recStep fs R x.l c) (j + 1) = true) := Lib.hid (by
                show (recAll (recStep fs R x.l c) j && recStep fs R x.l c (2 * j)) = true
                rw [HA.out, HST.out]
                rfl)
              have HU2 : Hid (u + 2 = 2 * (j + 1)) := Lib.hid (by have := HU.out; omega)
              obtain ⟨op, hop⟩ : ∃ op, y.opt = op := ⟨_, rfl⟩
              rw [hop] at hlk HST6 f2 HQ
              clear hop
              cases op with
              | true =>
                rw [if_pos rfl, Nat.add_zero] at HQ
                go_wp2_with (first
                  | ((with_reducible refine is_store 28 rfl ?_); (with_reducible refine wpList_store_run rfl rfl HST5.out ?_ ?_ ?_); (· rfl); (· rfl))
                  | ((with_reducible refine is_store 53 rfl ?_); (with_reducible refine wpList_store_run rfl rfl HST6.out ?_ ?_ ?_); (· rfl); (· rfl))
                  | (go_at_call 34; refine HSD.out.mono ?_; rintro e w7 ⟨rfl, rfl⟩)
                  | fail)
                go_roundw
                case rel => exact ⟨j + 1, u + 2, HU2, by simp, by rw [HQ.out]; first | rfl | simp, by omega, HA2, HB6⟩
                case measure => simp [intOf]; omega
              | false =>
                rw [if_neg (by decide)] at HQ
                go_wp2_with (first
                  | ((with_reducible refine is_store 28 rfl ?_); (with_reducible refine wpList_store_run rfl rfl HST5.out ?_ ?_ ?_); (· rfl); (· rfl))
                  | ((with_reducible refine is_store 53 rfl ?_); (with_reducible refine wpList_store_run rfl rfl HST6.out ?_ ?_ ?_); (· rfl); (· rfl))
                  | (go_at_call 34; refine HSD.out.mono ?_; rintro e w7 ⟨rfl, rfl⟩)
                  | fail)
                go_roundw
                case rel => exact ⟨j + 1, u + 2, HU2, by simp, by rw [HQ.out]; simp, by omega, HA2, HB6⟩
                case measure => simp [intOf]; omega
        · have HF : Hid (res = false) := Lib.hid (HRS.out j HJ.out (by
            unfold recStep
            rw [← HU.out, HXX.out]
            simp [hk3]))
          go_wp2_with (first
          | ((with_reducible refine is_store 28 rfl ?_); (with_reducible refine wpList_store_run rfl rfl HST5.out ?_ ?_ ?_); (· rfl); (· rfl))
          | ((with_reducible refine is_store 53 rfl ?_); (with_reducible refine wpList_store_run rfl rfl HST6.out ?_ ?_ ?_); (· rfl); (· rfl))
          | fail)
          go_ret
          exact ⟨by rw [HF.out]; rfl, HB6W.out⟩
      · obtain rfl : u = L := by omega
        have HJ : Hid (x.l.length / 2 = j) := Lib.hid (by have h1 := HL.out; have h2 := HE2.out; have h3 := HU.out; omega)
        have HUP := Lib.hid (HS.out.trans (HB.out.mono HS.out.size))
        have r0 := (HB.out.cell (p := ⟨w.heap.size, 3, none⟩) (block_lt_of_cell q3)).trans q3
        have g6' : wr.cell? ⟨g6, 0, none⟩ = some (.int .i64 (needF fs : Int)) := by rw [(HG6.out.on HB.out).cell]; rfl
        have HF : Hid (res = decide (recCount fs x.l j = needF fs)) := Lib.hid (by
          have h := HRE.out HK5.out (by rw [HJ.out]; exact HA.out)
          rwa [HJ.out] at h)
        generalize recCount fs x.l j = rc at *
        generalize needF fs = nf at *
        go_wp2_with fail
        go_ret
        refine ⟨?_, HUP.out⟩
        rw [HF.out]
        by_cases h : rc = nf
        · subst h; simp
        · have h' : ¬ (rc : Int) = (nf : Int) := by omega
          simp [h, h']
  · go_wp2_with fail
    go_ret
    exact ⟨by rw [HRN.out hk]; rfl, HS.out⟩
end Go.Proofs.YtjelgoeamaejmaaGreat
