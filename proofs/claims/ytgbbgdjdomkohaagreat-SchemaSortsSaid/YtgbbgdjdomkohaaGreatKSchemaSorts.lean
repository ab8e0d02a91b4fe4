/-
  PROVED: the law SchemaSorts returns true for every row of fields, whatever its size, and leaves it as it was (Rows.SchemaSortsSaid). Conditions: none beside the row's own.
-/
import Derived.Test.YtgbbgdjdomkohaaGreatKBK
import Derived.Test.YtgbbgdjdomkohaaGreatKBL
import Derived.Test.YtgbbgdjdomkohaaGreatKBM
namespace Go.Proofs.YtgbbgdjdomkohaaGreat.schemaSorts
open Go.ChangeShapes Go.WideShapes Go.ChangeAt Go.RowKit Go.Sort Go.BigFrame

theorem rdk_fs {w : World} {B m cap : Nat} {A : Option Addr} {fs : List Fl} (h : RdF w B A fs) (hm : fs.length = m) (hn : A = none → cap = 0) (hc : m ≤ cap) : RdK w 3 (.slice A m cap) m (fs.flatMap fc) := by
  refine ⟨A, cap, rfl, by rw [fc_len, hm], fun e => ⟨hn e, by have := hn e; omega⟩, fun h0 => ?_⟩
  obtain ⟨b, o, x, rfl, -, -, X, -⟩ := h.get (i := 0) (by omega)
  refine ⟨b, o, rfl, fun j hj => ?_⟩
  obtain ⟨b', o', y, e, -, -, Y, c0, c1, c2⟩ := h.get (i := j / 3) (by omega)
  injection e with e
  injection e with e1 e2
  subst e1 e2
  have ht := flat_at (s := 3) (c := fc) (fun _ => rfl) fs (j / 3) y (j % 3) Y (Nat.mod_lt _ (by decide))
  rw [show j / 3 * 3 + j % 3 = j by omega] at ht
  rw [ht]
  have h3 : j % 3 = 0 ∨ j % 3 = 1 ∨ j % 3 = 2 := by omega
  rcases h3 with h3 | h3 | h3
  · rw [h3, show o + j = o + j / 3 * 3 by omega]; exact c0
  · rw [h3, show o + j = o + j / 3 * 3 + 1 by omega]; exact c1
  · rw [h3, show o + j = o + j / 3 * 3 + 2 by omega]; exact c2
set_option maxHeartbeats 8000000 in
set_option maxRecDepth 100000 in
theorem walk (w : World) (fs : List Fl) (A : Option Addr) (cap : Nat) (hcap : fs.length ≤ cap) (hnil : A = none → cap = 0) (hx : RdF w w.heap.size A fs) (hks : ∀ y ∈ fs, y.key.size ≤ maxLen) (hlm : fs.length ≤ maxLen) :
    Calls Tryz.prog 3 #[.slice A fs.length cap] w fun e w' => e = .returned (.bool true) ∧ Below w.heap.size w w' := by
  have HA := Lib.hid (fun W => sch_awake W)
  have HF : Hid (∀ W, Below w.heap.size w W → RdF W w.heap.size A fs) := Lib.hid fun W hW => hx.keep hW
  have HNIL := Lib.hid hnil
  have HCAP := Lib.hid hcap
  have HKS := Lib.hid hks
  have HC1 := Lib.hid (fun (s : ByteArray) (hs : s.size ≤ maxLen) W => ref_FirstW s hs W)
  obtain ⟨m, hml⟩ : ∃ m, fs.length = m := ⟨_, rfl⟩
  have HM := Lib.hid hml
  rw [hml] at hlm ⊢
  clear hnil hcap hx hks hml
  have HL := Lib.hid hlm
  clear hlm
  by_cases hm : m ≤ 20
  · have hmb : (m : Int) ≤ 20 := by omega
    have hmb' : ¬ 20 < m := by omega
    go_enter Tryz.func3, Tryz.ntmps3
    go_wp2_with (first
      | (go_at_call 4; refine (HA.out _).mono ?_; rintro e w3 ⟨rfl, hb3⟩; have HB3 := Lib.hid hb3; clear hb3)
      | fail)
    clear hmb'
    go_loopw [3] (fun v wr => ∃ k : Nat, k ≤ m ∧ v = .int .i64 (k : Int) ∧ Hid (Below w.heap.size w wr) ∧ Hid (∀ y ∈ fs.take k, y.key.size ≤ 1048576)) (fun v _ => m - (intOf v).toNat)
    case atStart => exact ⟨0, by omega, rfl, HB3, Lib.hid fun y hy => by simp at hy⟩
    case round =>
      obtain ⟨k, hk, rfl, HBr, HG⟩ := hrel
      by_cases hlt : k < m
      · obtain ⟨b, o, fd, rfl, -, hbw, X, c0, -, -⟩ := (HF.out wr HBr.out).get (i := k) (by rw [HM.out]; exact hlt)
        have HFC := Lib.hid (HC1.out fd.key (HKS.out fd (List.mem_of_getElem? X)) wr)
        have HX := Lib.hid X
        clear hbw X
        generalize uat uq0 (sbytes fd.key) 0 = ua at *
        generalize uok uq0 (sbytes fd.key) = r at *
        cases r with
        | false =>
          go_wp2_with (first
            | (go_at_call 5; refine HFC.out.mono ?_; rintro e w' ⟨rfl, rfl⟩)
            | fail)
          go_ret
          exact ⟨rfl, HBr.out⟩
        | true =>
          by_cases h3 : fd.key.size ≤ 300
          · have h3' : ¬ (300 : Int) < (fd.key.size : Int) := by omega
            have H3 := Lib.hid h3
            clear h3
            go_wp2_with (first
              | (go_at_call 5; refine HFC.out.mono ?_; rintro e w' ⟨rfl, rfl⟩)
              | fail)
            go_roundw
            case rel => exact ⟨k + 1, by omega, by simp, HBr, Lib.hid fun y hy => by
              have e := take_map_snoc (fun x : Fl => x) HX.out
              simp only [List.map_id'] at e
              rw [e] at hy
              rcases List.mem_append.1 hy with hy | hy
              · exact HG.out y hy
              · rw [List.mem_singleton] at hy
                subst hy
                have := H3.out
                omega⟩
            case measure => simp [intOf]; omega
          · have h3' : (300 : Int) < (fd.key.size : Int) := by omega
            clear h3
            go_wp2_with (first
              | (go_at_call 5; refine HFC.out.mono ?_; rintro e w' ⟨rfl, rfl⟩)
              | fail)
            go_ret
            exact ⟨rfl, HBr.out⟩
      · obtain rfl : k = m := by omega
        have HRL := Lib.hid (rdk_fs (HF.out wr HBr.out) HM.out HNIL.out (by have := HCAP.out; rw [HM.out] at this; exact this))
        have hone : ∀ u ∈ fs.flatMap fc, u.oneCell' = true := fc_one fs
        clear hlt hk
        obtain ⟨v8, w8, hR8, hO8, hB8, -, -⟩ := run_append_rowK (P := Tryz.prog) (w := wr.alloc (.cells #[] 27)) (t := 22) (ty := 22) (e := 27) (s := 3) (bytes := 32) (z := .agg #[.string ⟨#[]⟩, .int .i64 0, .bool false]) (B := wr.heap.size) (n := 0) (cs := []) (m := k) (xs := fs.flatMap fc) Tryz.underlying22 infoField rfl (by decide) (by decide) (oc_new wr _ 27 3 0 #[] rfl (Nat.le_refl _) (by decide)) (HRL.out.on (below_alloc wr _)) hone (by omega) (by simp)
        rw [Nat.zero_add, List.nil_append] at hO8
        obtain ⟨A6, c6, rfl, -, -, -, -⟩ := oc_form hO8
        have HR8 := Lib.hid hR8
        have HO8 := Lib.hid hO8
        have HB8 := Lib.hid (HBr.out.trans (((below_alloc wr (.cells #[] 27)).trans hB8).mono HBr.out.size))
        clear hR8 hO8 hB8 hone
        go_wp2_with (first
          | ((with_reducible refine is_append 22 rfl ?_); (with_reducible refine wpList_append_run rfl rfl HR8.out ?_ ?_ ?_); (· rfl); (· rfl))
          | fail)
        have b9 := Blk.fresh w8 34 #[.int .i64 8, .int .i64 0, .int .i64 0, .int .i64 0, .int .u64 0, .string ⟨#[]⟩, .slice none 0 0, .slice none 0 0, .slice A k cap]
        have S9 := below_alloc w8 (.cells #[.int .i64 8, .int .i64 0, .int .i64 0, .int .i64 0, .int .u64 0, .string ⟨#[]⟩, .slice none 0 0, .slice none 0 0, .slice A k cap] 34)
        generalize w8.alloc (.cells #[.int .i64 8, .int .i64 0, .int .i64 0, .int .i64 0, .int .u64 0, .string ⟨#[]⟩, .slice none 0 0, .slice none 0 0, .slice A k cap] 34) = w9 at *
        have HB9 := Lib.hid (HB8.out.trans (S9.mono HB8.out.size))
        have HO9 := Lib.hid (oc_on HO8.out S9)
        have HOK : Hid (okF 1048576 fs) := Lib.hid fun y hy => HG.out y (by rw [← HM.out, List.take_length]; exact hy)
        have HKP : Hid (∀ W, Below w9.heap.size w9 W → W.cell? ⟨w8.heap.size, 0, none⟩ = some (.int .i64 8) ∧ W.cell? ⟨w8.heap.size, 1, none⟩ = some (.int .i64 0) ∧ W.cell? ⟨w8.heap.size, 2, none⟩ = some (.int .i64 0) ∧ W.cell? ⟨w8.heap.size, 3, none⟩ = some (.int .i64 0) ∧ W.cell? ⟨w8.heap.size, 4, none⟩ = some (.int .u64 0) ∧ W.cell? ⟨w8.heap.size, 5, none⟩ = some (.string ⟨#[]⟩) ∧ W.cell? ⟨w8.heap.size, 6, none⟩ = some (.slice none 0 0) ∧ W.cell? ⟨w8.heap.size, 7, none⟩ = some (.slice none 0 0) ∧ W.cell? ⟨w8.heap.size, 8, none⟩ = some (.slice A k cap)) := Lib.hid fun W hW => nblk (b9.on hW)
        have HS1 : Hid (∀ W, Below w9.heap.size w9 W → Calls Tryz.prog 6 #[.agg #[.int .i64 8, .int .i64 0, .int .i64 0, .int .i64 0, .int .u64 0, .string ⟨#[]⟩, .slice none 0 0, .slice none 0 0, .slice A k cap]] W fun e w' => (∃ v, e = .returned v ∧ w'.ownsRow W.heap.size 27 3 v k ((insS ltF fs).flatMap fc)) ∧ Below W.heap.size W w') := Lib.hid fun W hW => by
          have h0 := HB9.out.trans (hW.mono HB9.out.size)
          have := sch_Sorted ⟨8, 0, 0, zIt, [], fs⟩ ⟨none, 0, none, 0, A, cap⟩ w.heap.size W h0.size ⟨zIt_at W w.heap.size, fun h => absurd h (by simp), Nat.le_refl _, fun _ => rfl, HF.out W h0, HCAP.out, HNIL.out⟩ HOK.out (by rw [HM.out]; exact hm)
          rw [← HM.out]
          exact this
        have HS2 : Hid (∀ W, Below w9.heap.size w9 W → Calls Tryz.prog 7 #[.agg #[.int .i64 8, .int .i64 0, .int .i64 0, .int .i64 0, .int .u64 0, .string ⟨#[]⟩, .slice none 0 0, .slice none 0 0, .slice A k cap]] W fun e w' => (∃ v, e = .returned v ∧ w'.ownsRow W.heap.size 27 3 v k ((insS ltF fs).flatMap fc)) ∧ Below W.heap.size W w') := Lib.hid fun W hW => by
          have h0 := HB9.out.trans (hW.mono HB9.out.size)
          have := sref_Sorted ⟨8, 0, 0, zIt, [], fs⟩ ⟨none, 0, none, 0, A, cap⟩ w.heap.size W h0.size ⟨zIt_at W w.heap.size, fun h => absurd h (by simp), Nat.le_refl _, fun _ => rfl, HF.out W h0, HCAP.out, HNIL.out⟩ HOK.out (by rw [HM.out]; exact hm)
          rw [← HM.out]
          exact this
        clear b9 S9
        have HBW := Lib.hid (show Below w9.heap.size w9 w9.drew from below_drawn (Below.refl _ _))
        have cS := HKP.out w9.drew HBW.out
        go_region_held3 (fun W => W.cell? ⟨w8.heap.size, 0, none⟩ = some (.int .i64 8) ∧ W.cell? ⟨w8.heap.size, 1, none⟩ = some (.int .i64 0) ∧ W.cell? ⟨w8.heap.size, 2, none⟩ = some (.int .i64 0) ∧ W.cell? ⟨w8.heap.size, 3, none⟩ = some (.int .i64 0) ∧ W.cell? ⟨w8.heap.size, 4, none⟩ = some (.int .u64 0) ∧ W.cell? ⟨w8.heap.size, 5, none⟩ = some (.string ⟨#[]⟩) ∧ W.cell? ⟨w8.heap.size, 6, none⟩ = some (.slice none 0 0) ∧ W.cell? ⟨w8.heap.size, 7, none⟩ = some (.slice none 0 0) ∧ W.cell? ⟨w8.heap.size, 8, none⟩ = some (.slice A k cap)) (first | exact cS | (go_keep; done)) ((first
          | (go_at_call 6; refine (HS1.out _ HBW.out).mono ?_; rintro e7 w7 ⟨⟨v7, rfl, hO⟩, hb7⟩; obtain ⟨A7, c7, rfl, -, -, -, -⟩ := oc_form hO; have HX7 := Lib.hid hO; (first | (have HY7 := Lib.hid (oc_on HY7.out hb7)) | skip); have HBW := Lib.hid (HBW.out.trans (hb7.mono HBW.out.size)); have cS := HKP.out w7 HBW.out; clear hO hb7)
          | (go_at_call 7; refine (HS2.out _ HBW.out).mono ?_; rintro e7 w7 ⟨⟨v7, rfl, hO⟩, hb7⟩; obtain ⟨A8, c8, rfl, -, -, -, -⟩ := oc_form hO; have HY7 := Lib.hid hO; (first | (have HX7 := Lib.hid (oc_on HX7.out hb7)) | skip); have HBW := Lib.hid (HBW.out.trans (hb7.mono HBW.out.size)); have cS := HKP.out w7 HBW.out; clear hO hb7)
          | fail))
        all_goals
          clear cS
          have HBZ := Lib.hid (HB9.out.trans (HBW.out.mono HB9.out.size))
          have HW7 := Lib.hid (oc_on HO9.out HBW.out)
          have HLI : Hid ((insS ltF fs).length = k) := Lib.hid (by rw [insS_length, HM.out])
          clear HR8 HO8 HO9 HS1 HS2 HKP HBW HRL HB8 HB9
          go_wp2_with fail
          go_loopw [10] (fun v wr => ∃ j : Nat, j ≤ k ∧ v = .int .i64 (j : Int) ∧ Hid (Below w7.heap.size w7 wr)) (fun v _ => k - (intOf v).toNat)
          case atStart => exact ⟨0, by omega, rfl, Lib.hid (Below.refl _ _)⟩
          case round =>
            obtain ⟨j, hj, rfl, HBj⟩ := hrel
            by_cases hlt : j < k
            · obtain ⟨b, o, fd, rfl, -, -, X, c0, c1, c2⟩ := (HF.out wr (HBZ.out.trans (HBj.out.mono HBZ.out.size))).get (i := j) (by rw [HM.out]; exact hlt)
              obtain ⟨g7, e7, hv, -, -, -, -⟩ := oc_head HX7.out (by omega)
              injection hv with ev1 _ ev3
              subst ev1 ev3
              obtain ⟨g8, e8, hv, -, -, -, -⟩ := oc_head HY7.out (by omega)
              injection hv with ev1 _ ev3
              subst ev1 ev3
              obtain ⟨g6, e6, hv, -, -, -, -⟩ := oc_head HW7.out (by omega)
              injection hv with ev1 _ ev3
              subst ev1 ev3
              obtain ⟨y, hy⟩ : ∃ y, (insS ltF fs)[j]? = some y := ⟨_, List.getElem?_eq_getElem (by rw [HLI.out]; omega)⟩
              have x0 := (oc_cell (oc_on HX7.out HBj.out) (j := j * 3 + 0) (by omega)).1
              have x1 := (oc_cell (oc_on HX7.out HBj.out) (j := j * 3 + 1) (by omega)).1
              have x2 := (oc_cell (oc_on HX7.out HBj.out) (j := j * 3 + 2) (by omega)).1
              have y0 := (oc_cell (oc_on HY7.out HBj.out) (j := j * 3 + 0) (by omega)).1
              have y1 := (oc_cell (oc_on HY7.out HBj.out) (j := j * 3 + 1) (by omega)).1
              have y2 := (oc_cell (oc_on HY7.out HBj.out) (j := j * 3 + 2) (by omega)).1
              have z0 := (oc_cell (oc_on HW7.out HBj.out) (j := j * 3 + 0) (by omega)).1
              have z1 := (oc_cell (oc_on HW7.out HBj.out) (j := j * 3 + 1) (by omega)).1
              have z2 := (oc_cell (oc_on HW7.out HBj.out) (j := j * 3 + 2) (by omega)).1
              rw [flat_at (s := 3) (c := fc) (fun _ => rfl) _ j y _ hy (by omega)] at x0 x1 x2 y0 y1 y2
              rw [flat_at (s := 3) (c := fc) (fun _ => rfl) _ j fd _ X (by omega)] at z0 z1 z2
              replace x0 : wr.cell? ⟨g7, j * 3, none⟩ = some (.string y.key) := x0
              replace x1 : wr.cell? ⟨g7, j * 3 + 1, none⟩ = some (.int .i64 y.node) := x1
              replace x2 : wr.cell? ⟨g7, j * 3 + 2, none⟩ = some (.bool y.opt) := x2
              replace y0 : wr.cell? ⟨g8, j * 3, none⟩ = some (.string y.key) := y0
              replace y1 : wr.cell? ⟨g8, j * 3 + 1, none⟩ = some (.int .i64 y.node) := y1
              replace y2 : wr.cell? ⟨g8, j * 3 + 2, none⟩ = some (.bool y.opt) := y2
              replace z0 : wr.cell? ⟨g6, j * 3, none⟩ = some (.string fd.key) := z0
              replace z1 : wr.cell? ⟨g6, j * 3 + 1, none⟩ = some (.int .i64 fd.node) := z1
              replace z2 : wr.cell? ⟨g6, j * 3 + 2, none⟩ = some (.bool fd.opt) := z2
              clear X hy
              have hjI : (j : Int) < (k : Int) := by omega
              go_wp2_with fail
              go_quiet (fail)
              have HBq := Lib.hid (below_drawnN HBj.out nq)
              generalize wr.drewN nq = wq at *
              go_wp2_with fail
              go_roundw
              case rel => exact ⟨j + 1, by omega, by simp, HBq⟩
              case measure => simp [intOf]; omega
            · obtain rfl : j = k := by omega
              go_wp2_with fail
              go_ret
              exact ⟨rfl, HBZ.out.trans (HBj.out.mono HBZ.out.size)⟩
  · have hmb : ¬ (m : Int) ≤ 20 := by omega
    have hmb' : 20 < m := by omega
    go_enter Tryz.func3, Tryz.ntmps3
    go_wp2_with (first
      | (go_at_call 4; refine (HA.out _).mono ?_; rintro e w3 ⟨rfl, hb3⟩; have HB3 := Lib.hid hb3; clear hb3)
      | fail)
    go_ret
    exact ⟨rfl, HB3.out⟩

theorem own : ownKnob Tryz.prog.godebug = none := by kernel_rfl
theorem laidOut : laidOutB Tryz.prog = true := by kernel_rfl
set_option maxRecDepth 100000 in
theorem lifted (os : Os) (started : os.Started) (H : Type) (enc : TypeId × Value → H) :
    ReturnsInHanded {} Tryz.checked os 3 .any (Rows.schemaSortsSpec.pre6 enc Tryz.prog Tryz.f3 Rows.schemaSortsRow.domain false) (Rows.schemaSortsSpec.post enc Tryz.prog Tryz.f3 false true false false) := by
  refine returnsInHanded_of_change (C := Tryz.checked) own started (by kernel_rfl) Tryz.func3
    (ChangeSpec.witness6 (enc := enc) (C := Tryz.checked) false ⟨#[], #[.slice none 0 0], []⟩ 8 (by kernel_rfl) (by kernel_rfl) (by kernel_rfl) (by kernel_rfl)) ?_
  intro W base args ds gs before hval0 hW _ _
  have hval : ∀ (j : Nat) t v, Tryz.f3.params[j]? = some t → args[j]? = some v → Value.okWide Tryz.prog W .any base t v := hval0
  have hlt := hW.lt
  have hW' := hW
  obtain ⟨p, q, hA0, hV, hpq, _, _⟩ := hW
  have hA : DataW.TrodAll enc Tryz.prog W 0 (fun _ => true) true Tryz.f3.params.toList args.toList ds p := hA0
  rw [Tryz.params3] at hA hval
  obtain ⟨v0, vs0, d0, ds0, p0, q0, hargs, rfl, rfl, h0, r0⟩ := trodAll_cons hA
  obtain ⟨rfl, rfl, rfl⟩ := trodAll_nil r0
  obtain rfl : args = #[v0] := by cases args; simp_all
  obtain ⟨rfl, rfl⟩ := trodVars_none hV
  obtain ⟨x0, A0, c0, rfl, hc0, hn0, hx0, hk0, hm0⟩ := open_fields (hval 0 22 v0 rfl rfl) h0
  refine (walk W x0 A0 c0 hc0 hn0 hx0 hk0 hm0).mono fun e W' ⟨he, hbl⟩ => ?_
  subst he
  exact ⟨_, rfl, law_post laidOut (by kernel_rfl) rfl (by kernel_rfl) Tryz.underlying4 rfl rfl rfl hW' hbl⟩

theorem over : Rows.schemaSortsRow.holds Tryz.pinned (OpenSpec.ofChange Rows.schemaSortsSpec) :=
  OpenClaim.holds_of_wide 3 Tryz.f3 rfl rfl rfl rfl rfl rfl rfl ⟨rfl, rfl, rfl, rfl, rfl⟩ rfl rfl rfl rfl rfl (by kernel_rfl) Tryz.func3 (by kernel_rfl)
    (of_decide_eq_true (by kernel_rfl)) (by unfold Func.isWrapper; first | (rw [if_pos (by decide +kernel)]; kernel_rfl) | (rw [if_neg (by decide +kernel)]; exact ⟨rfl, rfl⟩))
    (fun os started H enc _ => lifted os started H enc)

/-- The statement. -/
theorem proved : Rows.SchemaSortsSaid := over
#print axioms proved
end Go.Proofs.YtgbbgdjdomkohaaGreat.schemaSorts
