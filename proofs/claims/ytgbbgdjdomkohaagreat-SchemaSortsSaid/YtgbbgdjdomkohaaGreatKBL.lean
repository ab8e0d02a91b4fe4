/- The document's Sorted, of 20 fields or fewer. -/
import Derived.Test.YtgbbgdjdomkohaaGreatKBK
import Derived.Lib.QuietBelow
import Derived.Deep.RegionLaw
namespace Go.Proofs.YtgbbgdjdomkohaaGreat
open Go.RowKit Go.Sort Go.BigFrame

theorem mem_insR {α : Type} {lt : α → α → Bool} {x y : α} : ∀ {l : List α}, y ∈ insR lt x l → y = x ∨ y ∈ l
  | [], h => by simpa [insR] using h
  | z :: l, h => by
    unfold insR at h
    split at h
    · rcases List.mem_cons.1 h with rfl | h
      · exact .inr (by simp)
      · rcases mem_insR h with rfl | h
        · exact .inl rfl
        · exact .inr (by simp [h])
    · rcases List.mem_cons.1 h with rfl | h
      · exact .inl rfl
      · exact .inr h
theorem mem_insAll {α : Type} {lt : α → α → Bool} {y : α} : ∀ (l acc : List α), y ∈ insAll lt acc l → y ∈ acc ∨ y ∈ l
  | [], acc, h => .inl h
  | x :: l, acc, h => by
    rcases mem_insAll l (insR lt x acc) h with h | h
    · rcases mem_insR h with rfl | h
      · exact .inr (by simp)
      · exact .inl h
    · exact .inr (by simp [h])
theorem mem_insS {α : Type} {lt : α → α → Bool} {y : α} {l : List α} (h : y ∈ insS lt l) : y ∈ l := by
  rw [insS, List.mem_reverse] at h
  rcases mem_insAll l [] h with h | h
  · cases h
  · exact h
theorem insS_next {α : Type} {lt : α → α → Bool} {l : List α} {x : α} (k : Nat) (hk : k ≤ (insS lt l).length) (h1 : ∀ i y, k ≤ i → (insS lt l)[i]? = some y → lt x y = true) (h2 : ∀ y, 0 < k → (insS lt l)[k - 1]? = some y → lt x y = false) :
    insS lt (l ++ [x]) = (insS lt l).take k ++ x :: (insS lt l).drop k := by
  rw [← insR_at (insS lt l) k hk h1 h2]
  unfold insS
  rw [insAll_snoc, List.reverse_reverse]
/-- What stands in memory ahead of an insertion's first append. -/
structure InsK (w7 W : World) (e : TypeId) (g0 : Nat) : Prop where
  own : W.ownsRow w7.heap.size e 3 (.slice (some ⟨g0, 0, none⟩) 0 0) 0 []
  low : Below w7.heap.size w7 W
theorem grown_blkK {W W' : World} {g g1 : Nat} {t : TypeId} {cs : Array Value} (hg : W.grownBy W' (some g)) (h : Blk W g1 t cs) (hne : g1 ≠ g) : Blk W' g1 t cs := by
  have := hg.block g1 h.lt (by simpa using hne)
  exact this.trans h
theorem ins_grownK {w7 W W1 : World} {e t : TypeId} {g0 g1 : Nat} {cs : Array Value} (_ : InsK w7 W e g0) (h : W.grownBy W1 (Value.slice (some ⟨g0, 0, none⟩) 0 0).ownBlock) (hb : Blk W g1 t cs) (hne : g1 ≠ g0) : Blk W1 g1 t cs := grown_blkK h hb hne
theorem insK0 (w7 : World) (e : TypeId) : InsK w7 (w7.alloc (.cells #[] e)).drew e w7.heap.size := ⟨oc_new w7 _ e 3 0 #[] rfl (Nat.le_refl _) (by decide), below_drawn (below_alloc _ _)⟩
theorem insK01 (w7 : World) (e : TypeId) (us : Array Value) : InsK w7 ((w7.alloc (.cells #[] e)).alloc (.cells us e)).drew e w7.heap.size ∧ Blk ((w7.alloc (.cells #[] e)).alloc (.cells us e)).drew (w7.heap.size + 1) e us := by
  refine ⟨⟨oc_alloc (oc_new w7 _ e 3 0 #[] rfl (Nat.le_refl _) (by decide)) _, below_drawn ((below_alloc _ _).alloc (by simp) _)⟩, ?_⟩
  have := Blk.fresh (w7.alloc (.cells #[] e)) e us
  rw [World.size_alloc] at this
  exact this
theorem insK10 (w7 : World) (e : TypeId) (us : Array Value) : InsK w7 ((w7.alloc (.cells us e)).alloc (.cells #[] e)).drew e (w7.heap.size + 1) ∧ Blk ((w7.alloc (.cells us e)).alloc (.cells #[] e)).drew w7.heap.size e us := by
  refine ⟨⟨?_, below_drawn ((below_alloc _ _).alloc (by simp) _)⟩, (Blk.fresh w7 e us).alloc _⟩
  have := oc_new (w7.alloc (.cells us e)) w7.heap.size e 3 0 #[] rfl (by simp) (by decide)
  rw [World.size_alloc] at this
  exact this
theorem run_lessB {P : Program} {t elem : TypeId} {sz : Nat} (hu : P.underlying t = some (.slice elem)) (hs : (P.info? elem).map (·.size) = some sz) (w : World) (A : Option Addr) (hA : ∀ p, A = some p → ∃ g, p = ⟨g, 0, none⟩) (len cap m : Nat) (hm : m ≤ cap) :
    (Instr.sliceAt t (.slice A len cap) none (some (.int .i64 (m : Int))) none).run P w = .ok (.slice A m cap) w := by
  have he : P.elem t = elem := by simp [Program.elem, hu]
  rw [run_sliceAt_slice w t _ _ _ _ (by rw [he]; exact hu), run_slice_h w t _ len cap (by rw [he]; exact hu) .i64 m (by omega) (by omega), he, size_run hs]
  cases A with
  | none => simp [sliced]
  | some p =>
    obtain ⟨g, rfl⟩ := hA p rfl
    simp [sliced, Addr.add_mid]
/-- Which of two encodings goes ahead. -/
theorem ref_keyLt (a b : ByteArray) (ha : a.size ≤ 1048576) (hb : b.size ≤ 1048576) (w : World) :
    Calls Tryz.prog 14 #[.string (strOfNums (codeL 3 a)), .string (strOfNums (codeL 3 b))] w fun e w' => e = .returned (.bool (keyLt a b)) ∧ Below w.heap.size w w' := by
  have h := ref_Less (strOfNums (codeL 3 a)) (strOfNums (codeL 3 b)) (by rw [strOfNums_size]; have := codeL_len 3 a; omega) (by rw [strOfNums_size]; have := codeL_len 3 b; omega) w
  rw [sbytes_str (byte_code ⟨by omega, by omega⟩ a), sbytes_str (byte_code ⟨by omega, by omega⟩ b)] at h
  exact h.mono fun e w' ⟨h1, n, h2⟩ => ⟨h1, by rw [h2]; exact below_drewN (Below.refl _ _) n⟩

set_option maxRecDepth 100000 in
set_option maxHeartbeats 8000000 in
theorem sref_Sorted (x : Nd) (p : Pl) (n : Nat) (w : World) (hn : n ≤ w.heap.size) (hx : NdB w n x p) (hok : okF 1048576 x.f) (hm : x.f.length ≤ 20) :
    Calls Tryz.prog 7 #[vN x p] w fun e w' => (∃ v, e = .returned v ∧ w'.ownsRow w.heap.size 27 3 v x.f.length ((insS ltF x.f).flatMap fc)) ∧ Below w.heap.size w w' := by
  obtain ⟨Av, cv, Al, cl, Af, cf⟩ := p
  have b1 := Blk.fresh w 34 (nc x ⟨Av, cv, Al, cl, Af, cf⟩)
  have S := below_alloc w (.cells (nc x ⟨Av, cv, Al, cl, Af, cf⟩) 34)
  obtain ⟨w1, hw1⟩ : ∃ w1, w.alloc (.cells (nc x ⟨Av, cv, Al, cl, Af, cf⟩) 34) = w1 := ⟨_, rfl⟩
  rw [hw1] at b1 S
  have HF : Hid (∀ W, Below w.heap.size w W → RdF W n Af x.f) := Lib.hid fun W hW => hx.f.keep (hW.mono hn)
  have HS := Lib.hid S
  have HOK := Lib.hid hok
  unfold nc at b1 hw1
  simp only [vN] at *
  obtain ⟨p0, p1, p2, p3, p4, p5, p6, p7, p8⟩ := nblk b1
  generalize x.f = fs at *
  obtain ⟨m, hml⟩ : ∃ m, fs.length = m := ⟨_, rfl⟩
  rw [hml] at p8 hw1 hm b1 ⊢
  have HB := Lib.hid b1
  have HM := Lib.hid hml
  have HUP : Hid (∀ W, Below w1.heap.size w1 W → Below w.heap.size w W) := Lib.hid fun W hW => S.trans (hW.mono S.size)
  have hmb : (m : Int) ≤ 20 := by omega
  clear S b1 hx hn hok hml
  go_enter Tryz.func7, Tryz.ntmps7
  go_wp2_with fail
  clear p0 p1 p2 p3 p4 p5 p6 p7 p8 hw1
  go_loopw [3, 4] (fun v i wr => ∃ k : Nat, k ≤ m ∧ i = .int .i64 (k : Int) ∧ Hid (Below w1.heap.size w1 wr) ∧ Hid (wr.ownsRow w1.heap.size 27 3 v k ((insS ltF (fs.take k)).flatMap fc))) (fun _ i _ => m - (intOf i).toNat)
  case atStart => exact ⟨0, by omega, rfl, Lib.hid (Below.refl _ _), Lib.hid (World.ownsRow_nil _ _ _ _)⟩
  case round =>
    obtain ⟨k, hk, rfl, HBr, HO⟩ := hrel
    obtain ⟨-, -, -, -, -, -, -, -, a8⟩ := nblk (HB.out.on HBr.out)
    by_cases hlt : k < m
    · obtain ⟨b, o, fd, rfl, -, hbw, X, c0, c1, c2⟩ := (HF.out wr (HUP.out _ HBr.out)).get (i := k) (by rw [HM.out]; exact hlt)
      have hfk := HOK.out fd (List.mem_of_getElem? X)
      obtain ⟨AO, co, rfl, hk1, hk2, hk3, hk4⟩ := oc_form HO.out
      have HSTEP : Hid (∀ a, a ≤ k → (∀ i y, a ≤ i → (insS ltF (fs.take k))[i]? = some y → ltF fd y = true) → (∀ y, 0 < a → (insS ltF (fs.take k))[a - 1]? = some y → ltF fd y = false) → insS ltF (fs.take (k + 1)) = (insS ltF (fs.take k)).take a ++ fd :: (insS ltF (fs.take k)).drop a) := Lib.hid fun a ha h1 h2 => by
        have e := take_map_snoc (fun x : Fl => x) X
        simp only [List.map_id'] at e
        rw [e]
        exact insS_next a (by rw [insS_length, List.length_take, HM.out]; omega) h1 h2
      have HOL : Hid ((insS ltF (fs.take k)).length = k) := Lib.hid (by rw [insS_length, List.length_take, HM.out]; omega)
      have HOUT : Hid (∀ y ∈ insS ltF (fs.take k), y.key.size ≤ 1048576) := Lib.hid fun y hy => HOK.out y (List.mem_of_mem_take (mem_insS hy))
      have HCA := Lib.hid (fun W => ref_code fd.key hfk W)
      have HFK := Lib.hid hfk
      have HKP : Hid (∀ W, Below wr.heap.size wr W → W.cell? ⟨w.heap.size, 8, none⟩ = some (.slice (some ⟨b, o, none⟩) m cf) ∧ W.cell? ⟨b, o + k * 3, none⟩ = some (.string fd.key) ∧ W.cell? ⟨b, o + k * 3 + 1, none⟩ = some (.int .i64 fd.node) ∧ W.cell? ⟨b, o + k * 3 + 2, none⟩ = some (.bool fd.opt)) := Lib.hid fun W hW =>
        ⟨(hW.cell (p := ⟨w.heap.size, 8, none⟩) (block_lt_of_cell a8)).trans a8, (hW.cell (p := ⟨b, _, none⟩) hbw).trans c0, (hW.cell (p := ⟨b, _, none⟩) hbw).trans c1, (hW.cell (p := ⟨b, _, none⟩) hbw).trans c2⟩
      have HRK := Lib.hid (HO.out)
      generalize hOE : insS ltF (fs.take k) = O at *
      clear hOE X hfk hbw HO
      go_wp2_with fail
      clear a8 c0 c1 c2
      obtain ⟨wo, rfl⟩ : ∃ wo, wo = wr := ⟨_, rfl⟩
      go_loopw [5] (fun v wr => ∃ a : Nat, a ≤ k ∧ v = .int .i64 (a : Int) ∧ Hid (Below wo.heap.size wo wr) ∧ Hid (∀ i y, a ≤ i → O[i]? = some y → ltF fd y = true)) (fun v _ => (intOf v).toNat)
      case atStart => exact ⟨k, by omega, rfl, Lib.hid (Below.refl _ _), Lib.hid fun i y hi hy => by have := (List.getElem?_eq_some_iff.1 hy).1; rw [HOL.out] at this; omega⟩
      case round =>
        obtain ⟨a, ha, rfl, HBa, HGE⟩ := hrel
        obtain ⟨q8, q0, q1, q2⟩ := HKP.out wr HBa.out
        by_cases h0 : a = 0
        · have hd1 : ¬ (0 : Int) < (a : Int) := by omega
          have HD := Lib.hid (show decide (0 < a) = false from decide_eq_false (by omega))
          clear hd1
          have H0 := Lib.hid h0
          have HA0 := Lib.hid ha
          have HH1 := Lib.hid hk1
          have HH3 := Lib.hid hk3
          have HH4 := Lib.hid hk4
          clear ha hk1 hk3 hk4 h0
          go_wp2_with fail
          clear q8 q0 q1 q2
          refine wp_region_quiet_below (by kernel_rfl) (by kernel_rfl) ?_
          iterate 3 (quiet_step (fail))
          rw [HD.out]
          repeat go_big_quiet_skip
          quiet_step (fail)
          refine wpQuiet_nil ?_
          intro _ hw'
          obtain ⟨⟨dq, osq⟩, hw''⟩ := hw'
          subst hw''
          have HQ := Lib.hid (HBa.out.trans ((below_regrown wr dq osq).mono HBa.out.size))
          generalize grow (redrawn wr dq) osq = w7 at *
          go_wp2_with fail
          have ha := HA0.out
          have hk1 := HH1.out
          have hk3 := HH3.out
          have hk4 := HH4.out
          have HK7 := Lib.hid (oc_on HRK.out HQ.out)
          have HKQ : Hid (∀ W, Below w7.heap.size w7 W → W.cell? ⟨w.heap.size, 8, none⟩ = some (.slice (some ⟨b, o, none⟩) m cf) ∧ W.cell? ⟨b, o + k * 3, none⟩ = some (.string fd.key) ∧ W.cell? ⟨b, o + k * 3 + 1, none⟩ = some (.int .i64 fd.node) ∧ W.cell? ⟨b, o + k * 3 + 2, none⟩ = some (.bool fd.opt)) := Lib.hid fun W hW => HKP.out W (HQ.out.trans (hW.mono HQ.out.size))
          have cS := HKQ.out w7.drew (below_drawn (Below.refl _ _))
          have HNX := Lib.hid (HSTEP.out a ha (HGE.out) (fun y h => absurd h (by have := H0.out; omega)))
          have HCO := Lib.hid (And.intro hk1 hk3)
          have sl1 := fun w => run_lessB (P := Tryz.prog) (t := 22) (elem := 27) (sz := 3) (by kernel_rfl) (by kernel_rfl) w AO (fun p hp => (hk4 p hp).imp fun _ h => h.1) k co (a) (by omega)
          have sl2 := fun w => run_cutK (P := Tryz.prog) (t := 22) (elem := 27) (sz := 3) (by kernel_rfl) (by kernel_rfl) w AO k co (a) (a : Nat) rfl ha
          obtain ⟨y2, hy2⟩ : ∃ y2, Value.slice (if co = (a) then AO else (AO : Option Addr).map (·.add ((a) * 3))) (k - (a)) (co - (a)) = y2 := ⟨_, rfl⟩
          have HY2 := Lib.hid (hy2 ▸ rdk_tail HK7.out ha)
          rw [hy2] at sl2
          have hR1 := rdk_head HK7.out ha (fun _ h => hk3 h)
          have hone1 : ∀ u ∈ (O.flatMap fc).take ((a) * 3), u.oneCell' = true := fun u hu => fc_one O u (List.mem_of_mem_take hu)
          have hone2 : ∀ u ∈ (O.flatMap fc).drop ((a) * 3), u.oneCell' = true := fun u hu => fc_one O u (List.mem_of_mem_drop hu)
          have hone3 : ∀ u ∈ (#[.string fd.key, .int .i64 fd.node, .bool fd.opt] : Array Value).toList, u.oneCell' = true := fun u hu => by
            simp only [List.mem_cons, List.not_mem_nil, or_false] at hu
            rcases hu with rfl | rfl | rfl <;> rfl
          have I1 := Lib.hid (insK0 w7 27)
          have I2 := Lib.hid (insK01 w7 27 #[.string fd.key, .int .i64 fd.node, .bool fd.opt])
          have I3 := Lib.hid (insK10 w7 27 #[.string fd.key, .int .i64 fd.node, .bool fd.opt])
          have HA := Lib.hid ha
          have HBQ := Lib.hid (HBr.out.trans (HQ.out.mono HBr.out.size))
          have hamI : (a : Nat) ≤ 20 := by omega
          (try clear h1 h2)
          clear hy2 hk1 hk3 hk4 HGE HRK HSTEP HCA
          go_region_held3 (fun W => W.cell? ⟨w.heap.size, 8, none⟩ = some (.slice (some ⟨b, o, none⟩) m cf) ∧ W.cell? ⟨b, o + k * 3, none⟩ = some (.string fd.key) ∧ W.cell? ⟨b, o + k * 3 + 1, none⟩ = some (.int .i64 fd.node) ∧ W.cell? ⟨b, o + k * 3 + 2, none⟩ = some (.bool fd.opt)) (first | exact cS | exact HKQ.out _ (below_drawn (below_alloc _ _)) | exact HKQ.out _ (below_drawn (two_below _ _ _)) | exact HKQ.out _ (below_alloc _ _) | exact HKQ.out _ (two_below _ _ _) | exact HKQ.out _ HL3.out | exact HKQ.out _ HL2.out | exact HKQ.out _ HL1.out | exact HKQ.out _ (HL1.out.alloc HL1.out.size _) | (go_keep; done)) ((first
            | (refine step_append_rowK (t := 22) (e := 27) (k := 3) (bytes := 32) (z := .agg #[.string ⟨#[]⟩, .int .i64 0, .bool false]) (B := w7.heap.size) (n := 0) (cs := []) (m := a) (xs := (O.flatMap fc).take ((a) * 3)) rfl rfl rfl rfl Tryz.underlying22 infoField rfl (by decide) (by decide) (by first | exact I1.out.own | exact I2.out.1.own | exact I3.out.1.own) (by first | exact hR1.on I1.out.low | exact hR1.on I2.out.1.low | exact hR1.on I3.out.1.low) hone1 (by omega) (by first | exact I1.out.low.size | exact I2.out.1.low.size | exact I3.out.1.low.size) ?_; intro v1 W1 g1 g2 g3; have HV1 := Lib.hid g1; have HL1 := Lib.hid (show Below w7.heap.size w7 W1 by first | exact I1.out.low.trans g2 | exact I2.out.1.low.trans g2 | exact I3.out.1.low.trans g2); (first | have HG1 := Lib.hid (ins_grownK I2.out.1 (by exact g3) I2.out.2 (by omega)) | have HG1 := Lib.hid (ins_grownK I3.out.1 (by exact g3) I3.out.2 (by omega)) | skip); clear g1 g2 g3)
            | (refine step_append_rowK (t := 22) (e := 27) (k := 3) (bytes := 32) (z := .agg #[.string ⟨#[]⟩, .int .i64 0, .bool false]) (B := w7.heap.size) (n := 0 + (a)) (cs := [] ++ (O.flatMap fc).take ((a) * 3)) (m := 1) (xs := (#[.string fd.key, .int .i64 fd.node, .bool fd.opt] : Array Value).toList) rfl rfl rfl rfl Tryz.underlying22 infoField rfl (by decide) (by decide) (by first | exact HV1.out | exact oc_alloc HV1.out _) (by first | exact rdk_blk HG1.out rfl | exact rdk_blk (Blk.fresh W1 27 #[.string fd.key, .int .i64 fd.node, .bool fd.opt]) rfl) hone3 (by omega) (by first | exact HL1.out.size | exact (HL1.out.alloc HL1.out.size _).size) ?_; intro v2 W2 g1 g2 g3; have HV2 := Lib.hid g1; have HL2 := Lib.hid (show Below w7.heap.size w7 W2 by first | exact HL1.out.trans g2 | exact (HL1.out.alloc HL1.out.size _).trans g2); clear g1 g2 g3)
            | (refine step_append_rowK (t := 22) (e := 27) (k := 3) (bytes := 32) (z := .agg #[.string ⟨#[]⟩, .int .i64 0, .bool false]) (B := w7.heap.size) (n := 0 + (a) + 1) (cs := [] ++ (O.flatMap fc).take ((a) * 3) ++ (#[.string fd.key, .int .i64 fd.node, .bool fd.opt] : Array Value).toList) (m := k - (a)) (xs := (O.flatMap fc).drop ((a) * 3)) rfl rfl rfl rfl Tryz.underlying22 infoField rfl (by decide) (by decide) (by exact HV2.out) (by exact HY2.out.on HL2.out) hone2 (by omega) (by exact HL2.out.size) ?_; intro v3 W3 g1 g2 g3; have HV3 := Lib.hid g1; have HL3 := Lib.hid (show Below w7.heap.size w7 W3 from HL2.out.trans g2); clear g1 g2 g3)
            | fail))
          all_goals
            have HK9 : Hid (W3.ownsRow w1.heap.size 27 3 v3 (k + 1) ((insS ltF (fs.take (k + 1))).flatMap fc)) := Lib.hid (by
              have h1 := oc_less HV3.out (B' := w1.heap.size) HBQ.out.size
              rw [show 0 + (a) + 1 + (k - (a)) = k + 1 by have := HA.out; omega, flat_take (s := 3) (fun _ => rfl), flat_drop (s := 3) (fun _ => rfl)] at h1
              rw [HNX.out, List.flatMap_append, List.flatMap_cons]
              simpa [fc] using h1)
            have HB9 := Lib.hid (HBQ.out.trans (HL3.out.mono HBQ.out.size))
            clear cS
            go_wp2_with fail
            go_roundw
            case rel => exact ⟨k + 1, by omega, by simp, HB9, HK9⟩
            case measure => simp [intOf]; omega
        · obtain ⟨a', rfl⟩ : ∃ a', a = a' + 1 := ⟨a - 1, by omega⟩
          obtain ⟨g, cg, hv, -, -, -, -⟩ := oc_head HRK.out (by omega)
          injection hv with ev1 _ ev3
          subst ev1 ev3
          obtain ⟨y, hy⟩ : ∃ y, O[a']? = some y := ⟨_, List.getElem?_eq_getElem (by rw [HOL.out]; omega)⟩
          have q3 : wr.cell? ⟨g, a' * 3, none⟩ = some (.string y.key) := by
            have := (oc_cell (oc_on HRK.out HBa.out) (j := a' * 3 + 0) (by omega)).1
            rw [flat_at (s := 3) (fun _ => rfl) O a' y 0 hy (by omega)] at this
            exact this
          have hys := HOUT.out y (List.mem_of_getElem? hy)
          have hwp : IntKind.i64.wrap (a' : Int) = (a' : Int) := IntWalk.i64_in _ (by omega)
          have hak : a' < k := by omega
          have hak' : (a' : Int) < k := by omega
          have hpos : (0 : Int) < (a' : Int) + 1 := by omega
          have k8 := cell_regrown q8
          have k0 := cell_regrown q0
          have k3 := cell_regrown q3
          have K1 := Lib.hid (fun dq os => Calls.regrown_of (HCA.out (grow (redrawn wr dq) os)))
          have K2 := Lib.hid (fun dq os => Calls.regrown_of (ref_code y.key hys (grow (redrawn wr dq) os)))
          have hk3L := fun dq os => Calls.regrown_of (ref_keyLt fd.key y.key HFK.out hys (grow (redrawn wr dq) os))
          obtain ⟨r, hr⟩ : ∃ r, keyLt fd.key y.key = r := ⟨_, rfl⟩
          rw [hr] at hk3L
          have K3 := Lib.hid hk3L
          have HR : Hid (ltF fd y = r) := Lib.hid hr
          clear hk3L hr hys
          have HY := Lib.hid hy
          clear hy
          generalize strOfNums (codeL 3 fd.key) = s1 at *
          generalize strOfNums (codeL 3 y.key) = s2 at *
          cases r with
          | true =>
            have HN := Lib.hid (show ∀ i z, a' ≤ i → O[i]? = some z → ltF fd z = true from fun i z hi hz => by
              by_cases e : i = a'
              · subst e
                rw [HY.out] at hz
                injection hz with hz
                rw [← hz]
                exact HR.out
              · exact HGE.out i z (by omega) hz)
            go_wp2_with fail
            clear q8 q0 q1 q2 q3
            refine wp_region_quiet_below (by kernel_rfl) (by kernel_rfl) ?_
            repeat (quiet_step (first | (with_reducible exact K1.out _ _) | (with_reducible exact K2.out _ _) | (with_reducible exact K3.out _ _)))
            refine wpQuiet_nil ?_
            intro _ hw'
            obtain ⟨⟨dq, osq⟩, hw''⟩ := hw'
            subst hw''
            have HQ := Lib.hid (HBa.out.trans ((below_regrown wr dq osq).mono HBa.out.size))
            generalize grow (redrawn wr dq) osq = w7 at *
            go_wp2_with fail
            go_roundw
            case rel => exact ⟨a', by omega, by simp, HQ, HN⟩
            case measure => simp [intOf]
          | false =>
            have h1 := HGE.out
            have h2 : ∀ z, 0 < a' + 1 → O[a' + 1 - 1]? = some z → ltF fd z = false := fun z _ hz => by
              rw [Nat.add_sub_cancel, HY.out] at hz
              injection hz with hz
              rw [← hz]
              exact HR.out
            go_wp2_with fail
            clear q8 q0 q1 q2 q3
            refine wp_region_quiet_below (by kernel_rfl) (by kernel_rfl) ?_
            repeat (quiet_step (first | (with_reducible exact K1.out _ _) | (with_reducible exact K2.out _ _) | (with_reducible exact K3.out _ _)))
            refine wpQuiet_nil ?_
            intro _ hw'
            obtain ⟨⟨dq, osq⟩, hw''⟩ := hw'
            subst hw''
            have HQ := Lib.hid (HBa.out.trans ((below_regrown wr dq osq).mono HBa.out.size))
            generalize grow (redrawn wr dq) osq = w7 at *
            go_wp2_with fail
            have HK7 := Lib.hid (oc_on HRK.out HQ.out)
            have HKQ : Hid (∀ W, Below w7.heap.size w7 W → W.cell? ⟨w.heap.size, 8, none⟩ = some (.slice (some ⟨b, o, none⟩) m cf) ∧ W.cell? ⟨b, o + k * 3, none⟩ = some (.string fd.key) ∧ W.cell? ⟨b, o + k * 3 + 1, none⟩ = some (.int .i64 fd.node) ∧ W.cell? ⟨b, o + k * 3 + 2, none⟩ = some (.bool fd.opt)) := Lib.hid fun W hW => HKP.out W (HQ.out.trans (hW.mono HQ.out.size))
            have cS := HKQ.out w7.drew (below_drawn (Below.refl _ _))
            have HNX := Lib.hid (HSTEP.out (a' + 1) ha h1 h2)
            have HCO := Lib.hid (And.intro hk1 hk3)
            have sl1 := fun w => run_lessB (P := Tryz.prog) (t := 22) (elem := 27) (sz := 3) (by kernel_rfl) (by kernel_rfl) w (some ⟨g, 0, none⟩) (fun p hp => (hk4 p hp).imp fun _ h => h.1) k co ((a' + 1)) (by omega)
            have sl2 := fun w => run_cutK (P := Tryz.prog) (t := 22) (elem := 27) (sz := 3) (by kernel_rfl) (by kernel_rfl) w (some ⟨g, 0, none⟩) k co ((a' + 1)) ((a' + 1) : Nat) rfl ha
            obtain ⟨y2, hy2⟩ : ∃ y2, Value.slice (if co = ((a' + 1)) then (some ⟨g, 0, none⟩) else ((some ⟨g, 0, none⟩) : Option Addr).map (·.add (((a' + 1)) * 3))) (k - ((a' + 1))) (co - ((a' + 1))) = y2 := ⟨_, rfl⟩
            have HY2 := Lib.hid (hy2 ▸ rdk_tail HK7.out ha)
            rw [hy2] at sl2
            have hcI : (((a' + 1) : Nat) : Int) = (a' : Int) + 1 := by omega
            simp only [hcI] at sl1 sl2
            clear hcI
            have hR1 := rdk_head HK7.out ha (fun _ h => hk3 h)
            have hone1 : ∀ u ∈ (O.flatMap fc).take (((a' + 1)) * 3), u.oneCell' = true := fun u hu => fc_one O u (List.mem_of_mem_take hu)
            have hone2 : ∀ u ∈ (O.flatMap fc).drop (((a' + 1)) * 3), u.oneCell' = true := fun u hu => fc_one O u (List.mem_of_mem_drop hu)
            have hone3 : ∀ u ∈ (#[.string fd.key, .int .i64 fd.node, .bool fd.opt] : Array Value).toList, u.oneCell' = true := fun u hu => by
              simp only [List.mem_cons, List.not_mem_nil, or_false] at hu
              rcases hu with rfl | rfl | rfl <;> rfl
            have I1 := Lib.hid (insK0 w7 27)
            have I2 := Lib.hid (insK01 w7 27 #[.string fd.key, .int .i64 fd.node, .bool fd.opt])
            have I3 := Lib.hid (insK10 w7 27 #[.string fd.key, .int .i64 fd.node, .bool fd.opt])
            have HA := Lib.hid ha
            have HBQ := Lib.hid (HBr.out.trans (HQ.out.mono HBr.out.size))
            have hamI : ((a' + 1) : Nat) ≤ 20 := by omega
            (try clear h1 h2)
            clear hy2 hk1 hk3 hk4 HGE HRK HSTEP HCA
            go_region_held3 (fun W => W.cell? ⟨w.heap.size, 8, none⟩ = some (.slice (some ⟨b, o, none⟩) m cf) ∧ W.cell? ⟨b, o + k * 3, none⟩ = some (.string fd.key) ∧ W.cell? ⟨b, o + k * 3 + 1, none⟩ = some (.int .i64 fd.node) ∧ W.cell? ⟨b, o + k * 3 + 2, none⟩ = some (.bool fd.opt)) (first | exact cS | exact HKQ.out _ (below_drawn (below_alloc _ _)) | exact HKQ.out _ (below_drawn (two_below _ _ _)) | exact HKQ.out _ (below_alloc _ _) | exact HKQ.out _ (two_below _ _ _) | exact HKQ.out _ HL3.out | exact HKQ.out _ HL2.out | exact HKQ.out _ HL1.out | exact HKQ.out _ (HL1.out.alloc HL1.out.size _) | (go_keep; done)) ((first
              | (refine step_append_rowK (t := 22) (e := 27) (k := 3) (bytes := 32) (z := .agg #[.string ⟨#[]⟩, .int .i64 0, .bool false]) (B := w7.heap.size) (n := 0) (cs := []) (m := (a' + 1)) (xs := (O.flatMap fc).take (((a' + 1)) * 3)) rfl rfl rfl rfl Tryz.underlying22 infoField rfl (by decide) (by decide) (by first | exact I1.out.own | exact I2.out.1.own | exact I3.out.1.own) (by first | exact hR1.on I1.out.low | exact hR1.on I2.out.1.low | exact hR1.on I3.out.1.low) hone1 (by omega) (by first | exact I1.out.low.size | exact I2.out.1.low.size | exact I3.out.1.low.size) ?_; intro v1 W1 g1 g2 g3; have HV1 := Lib.hid g1; have HL1 := Lib.hid (show Below w7.heap.size w7 W1 by first | exact I1.out.low.trans g2 | exact I2.out.1.low.trans g2 | exact I3.out.1.low.trans g2); (first | have HG1 := Lib.hid (ins_grownK I2.out.1 (by exact g3) I2.out.2 (by omega)) | have HG1 := Lib.hid (ins_grownK I3.out.1 (by exact g3) I3.out.2 (by omega)) | skip); clear g1 g2 g3)
              | (refine step_append_rowK (t := 22) (e := 27) (k := 3) (bytes := 32) (z := .agg #[.string ⟨#[]⟩, .int .i64 0, .bool false]) (B := w7.heap.size) (n := 0 + ((a' + 1))) (cs := [] ++ (O.flatMap fc).take (((a' + 1)) * 3)) (m := 1) (xs := (#[.string fd.key, .int .i64 fd.node, .bool fd.opt] : Array Value).toList) rfl rfl rfl rfl Tryz.underlying22 infoField rfl (by decide) (by decide) (by first | exact HV1.out | exact oc_alloc HV1.out _) (by first | exact rdk_blk HG1.out rfl | exact rdk_blk (Blk.fresh W1 27 #[.string fd.key, .int .i64 fd.node, .bool fd.opt]) rfl) hone3 (by omega) (by first | exact HL1.out.size | exact (HL1.out.alloc HL1.out.size _).size) ?_; intro v2 W2 g1 g2 g3; have HV2 := Lib.hid g1; have HL2 := Lib.hid (show Below w7.heap.size w7 W2 by first | exact HL1.out.trans g2 | exact (HL1.out.alloc HL1.out.size _).trans g2); clear g1 g2 g3)
              | (refine step_append_rowK (t := 22) (e := 27) (k := 3) (bytes := 32) (z := .agg #[.string ⟨#[]⟩, .int .i64 0, .bool false]) (B := w7.heap.size) (n := 0 + ((a' + 1)) + 1) (cs := [] ++ (O.flatMap fc).take (((a' + 1)) * 3) ++ (#[.string fd.key, .int .i64 fd.node, .bool fd.opt] : Array Value).toList) (m := k - ((a' + 1))) (xs := (O.flatMap fc).drop (((a' + 1)) * 3)) rfl rfl rfl rfl Tryz.underlying22 infoField rfl (by decide) (by decide) (by exact HV2.out) (by exact HY2.out.on HL2.out) hone2 (by omega) (by exact HL2.out.size) ?_; intro v3 W3 g1 g2 g3; have HV3 := Lib.hid g1; have HL3 := Lib.hid (show Below w7.heap.size w7 W3 from HL2.out.trans g2); clear g1 g2 g3)
              | fail))
            all_goals
              have HK9 : Hid (W3.ownsRow w1.heap.size 27 3 v3 (k + 1) ((insS ltF (fs.take (k + 1))).flatMap fc)) := Lib.hid (by
                have h1 := oc_less HV3.out (B' := w1.heap.size) HBQ.out.size
                rw [show 0 + ((a' + 1)) + 1 + (k - ((a' + 1))) = k + 1 by have := HA.out; omega, flat_take (s := 3) (fun _ => rfl), flat_drop (s := 3) (fun _ => rfl)] at h1
                rw [HNX.out, List.flatMap_append, List.flatMap_cons]
                simpa [fc] using h1)
              have HB9 := Lib.hid (HBQ.out.trans (HL3.out.mono HBQ.out.size))
              clear cS
              go_wp2_with fail
              go_roundw
              case rel => exact ⟨k + 1, by omega, by simp, HB9, HK9⟩
              case measure => simp [intOf]; omega
    · obtain rfl : k = m := by omega
      go_wp2_with fail
      go_ret
      refine ⟨⟨_, rfl, ?_⟩, HUP.out _ HBr.out⟩
      have := HO.out
      rw [← HM.out, List.take_length] at this
      rw [← HM.out]
      exact oc_less this HS.out.size
end Go.Proofs.YtgbbgdjdomkohaaGreat
