
/- Package sha: the sum. -/
import Derived.Test.YtnankgophbjioaaDoorShaF
namespace Go.Proofs.YtnankgophbjioaaDoor
open Go.RowKit

theorem elem4 : (Tryd.prog.info? 30).map (·.size) = some 1 := by kernel_rfl
/-- The 4 bytes of a number, the greatest one first. -/
def be4 (x : Int) : List Int := (le 4 x).reverse
theorem length_be4 (x : Int) : (be4 x).length = 4 := by unfold be4; rw [List.length_reverse, length_le]
def be4s (l : List Int) : List Int := l.flatMap be4
theorem length_be4s : ∀ l : List Int, (be4s l).length = 4 * l.length
  | [] => rfl
  | x :: r => by
    have := length_be4s r
    simp only [be4s, List.flatMap_cons, List.length_append, length_be4, List.length_cons] at *
    omega
theorem be4s_snoc (l : List Int) (x : Int) : be4s (l ++ [x]) = be4s l ++ be4 x := by simp [be4s]
theorem be4s_take (l : List Int) (k : Nat) (h : k < l.length) : be4s (l.take k) ++ be4 (l.getD k 0) = be4s (l.take (k + 1)) := by rw [take_snoc l k h, be4s_snoc]
/-- The whole text with its end. -/
def padded (l : List Int) : List Int := l ++ endL l.length
/-- SHA-256 of l. -/
def shaL (l : List Int) : List Int := be4s (hs (padded l) ((padded l).length / 64))
theorem byte_end (n : Nat) : ByteL (endL n) := by
  unfold endL
  refine byte_append (fun c hc => ?_) (fun c hc => byte_le 8 _ c (List.mem_reverse.1 hc))
  rcases List.mem_cons.1 hc with rfl | hc
  · decide
  · obtain ⟨_, rfl⟩ := List.mem_replicate.1 hc; decide
theorem length_end (n : Nat) : (endL n).length ≤ 73 := by
  unfold endL
  simp only [List.length_append, List.length_cons, List.length_replicate, List.length_reverse, length_le]
  omega

theorem digC_one (a b : List Int) (n : Int) : (digC a b n).all (·.oneCell') = true := by
  unfold digC
  rw [Array.all_append, Array.all_append, nums_one, nums_one]
  simp [Value.oneCell']
theorem cells_one (l : List Int) : (cellsOf l).all (·.oneCell') = true := digC_one _ _ _
theorem cells_size (l : List Int) : (cellsOf l).size = 73 := by unfold cellsOf; rw [digC_size, length_ad, length_pad]
theorem size_dig : (Tryd.prog.info? 35).map (·.size) = some 73 := (zero_of_info zeroD).2
theorem cells_72 (l : List Int) : (cellsOf l)[72]? = some (.int .u64 l.length) := digC_length _ _ _ (length_ad _ _) (length_pad _ _)
theorem load_dig {w : World} {g : Nat} {l : List Int} (hg : Blk w g 35 (cellsOf l)) : (Instr.loadAt 35 (.pointer (some ⟨g, 0, none⟩))).run Tryd.prog w = .ok (.agg (cellsOf l)) w :=
  run_load_all hg Tryd.underlying35 rfl (by rw [cells_size]; exact size_dig)
theorem store_dig (w : World) (l : List Int) (c : Array Value) (hc : c.size = 73) : (Instr.storeAt 35 (.pointer (some ⟨w.heap.size, 0, none⟩)) (.agg (cellsOf l))).run Tryd.prog (w.alloc (.cells c 35)) = .ok () (w.alloc (.cells (cellsOf l) 35)) :=
  run_storeAt_new w 35 c (cellsOf l) (by rw [cells_size]; exact size_dig) (by rw [hc, cells_size]) (cells_one l)
set_option maxRecDepth 100000 in
set_option maxHeartbeats 1000000 in
theorem sha_sum (w : World) (g : Nat) (l : List Int) (hl : l.length ≤ 900000000) (bl : ByteL l) (hg : Blk w g 35 (cellsOf l)) (T : Tabs w) :
    Calls Tryd.prog 11 #[.pointer (some ⟨g, 0, none⟩)] w fun e w' => ∃ A cap, e = .returned (.slice A 32 cap) ∧ (A = none → cap = 0) ∧ Rd w' w'.heap.size .u8 A (shaL l) ∧ Below w.heap.size w w' := by
  have HL := Lib.hid (load_dig hg)
  have HS := Lib.hid (fun c hc => store_dig w l c hc)
  have HZ := zero_dig
  have Hz0 := Lib.hid (cells_size [])
  have c72 : w.cell? ⟨g, 72, none⟩ = some (.int .u64 l.length) := (hg.cell 72).trans (cells_72 l)
  generalize cellsOf [] = C at *
  obtain ⟨n, en⟩ : ∃ n, l.length = n := ⟨_, rfl⟩
  rw [en] at c72 hl
  have EN := Lib.hid en
  have hgl := hg.lt
  clear en
  go_enter Tryd.func11, Tryd.ntmps11
  go_wp2_with (first | ((with_reducible refine is_load 35 rfl ?_); (with_reducible refine wpList_load_run rfl rfl HL.out ?_ ?_); (· rfl)) | ((with_reducible refine is_store 35 rfl ?_); (with_reducible refine wpList_store_run rfl rfl (HS.out _ Hz0.out) ?_ ?_ ?_); (· rfl); (· rfl)))
  have hb0 : Below w.heap.size w (w.alloc (.cells (cellsOf l) 35)) := below_alloc w _
  have b0 : Blk (w.alloc (.cells (cellsOf l) 35)) w.heap.size 35 (cellsOf l) := Blk.fresh _ _ _
  have z0 : (w.alloc (.cells (cellsOf l) 35)).heap.size = w.heap.size + 1 := by simp
  refine (sha_end _ n (by omega)).mono ?_
  rintro e w1 ⟨A, cap, rfl, hcap, hnil, hrd, hown, hb1⟩
  have b1 := b0.on hb1
  have T1 := (T.below hb0).below hb1
  rw [z0] at hown hb1
  have hx : RdX w1 w.heap.size .u8 A (endL n) := fun hn => by
    obtain ⟨b, o, hA, hs, hc⟩ := hrd hn
    obtain ⟨b', hp, hB⟩ := hown _ hA
    injection hp with e1
    exact ⟨b, o, hA, by omega, hs, hc⟩
  have hle := length_end n
  have hb01 : Below w.heap.size w w1 := hb0.trans (hb1.mono (by omega))
  have htwo := T.two
  clear hb0 b0 z0 HL HS hb1 hown hrd hnil
  have HWR := Lib.hid (sha_write w1 w.heap.size l (endL n) A cap (by rw [EN.out]; omega) bl (byte_end n) hcap b1 hx T1 htwo)
  have HT1 := Lib.hid T1
  clear b1 hx T1
  go_wp2_with fail
  refine HWR.out.mono ?_
  rintro e w2 ⟨rfl, hg2, ho2⟩
  have T2 := HT1.out.only ho2 htwo
  have EP : Hid (l ++ endL n = padded l) := by unfold Hid padded; rw [EN.out]
  rw [EP.out] at hg2
  have hP : (padded l).length < 1000000000 := by rw [← EP.out, List.length_append, EN.out]; omega
  have hb02 : Below w.heap.size w w2 := hb01.trans (ho2.below (Nat.le_refl _) hb01.size)
  have HST := Lib.hid (sha_state w2 w.heap.size (ad (padded l) ((padded l).length / 64)) (length_ad _ _) (inL_ad _ _) (fun i hi => by
    rw [hg2.cell]
    unfold cellsOf
    exact digC_added _ _ _ i (by rw [length_ad]; exact hi)) T2)
  clear HWR HT1
  go_wp2_with fail
  refine HST.out.mono ?_
  rintro e w3 ⟨rfl, hb3⟩
  have hb03 : Below w.heap.size w w3 := hb02.trans (hb3.mono hb02.size)
  have hS8 := length_hs (padded l) ((padded l).length / 64)
  have iS : InL (hs (padded l) ((padded l).length / 64)) := inL_addL _ _
  have ES : Hid (addL startL (ad (padded l) ((padded l).length / 64)) = hs (padded l) ((padded l).length / 64)) := rfl
  rw [ES.out]
  obtain ⟨S, eS⟩ : ∃ S, hs (padded l) ((padded l).length / 64) = S := ⟨_, rfl⟩
  rw [eS] at hS8 iS ⊢
  have ESH : Hid (shaL l = be4s S) := by unfold Hid shaL; rw [eS]
  have HS8 := Lib.hid hS8
  clear eS ES HST hb3 hg2 ho2 T2 hP hb01 hb02 hS8 hcap
  go_wp2_with fail
  go_loopw [4, 19] (fun v i wr => ∃ k : Nat, k ≤ 8 ∧ i = .int .i64 k ∧ Own wr w.heap.size .u8 5 v (be4s (S.take k)) ∧ Below w.heap.size w wr) (fun _ i _ => 8 - (intOf i).toNat)
  case atStart => exact ⟨0, by decide, rfl, Own.nil _ _ _ _, hb03⟩
  case round =>
    obtain ⟨k, hk, rfl, hown, hb⟩ := hrel
    by_cases hlt : k < 8
    · have HI := fun w => run_index_nums (P := Tryd.prog) arr8 Tryd.underlying30 elem4 S k hlt HS8.out w
      have hlk : 4 * k = (be4s (S.take k)).length := by rw [length_be4s, List.length_take, HS8.out]; omega
      have HE := Lib.hid (be4s_take S k (by rw [HS8.out]; exact hlt))
      have rx := iS.get k
      obtain ⟨x, ex⟩ : ∃ x, S.getD k 0 = x := ⟨_, rfl⟩
      rw [ex] at HI HE rx
      clear ex
      have HOWN := Lib.hid hown
      have HLK := Lib.hid hlk
      clear hown hlk
      go_wp2_with fail
      refine (PutBig32 _ x rx.1).mono ?_
      rintro e w4 ⟨j, rfl, hj, hb4⟩
      have o4 := HOWN.out.below hb4
      have hs4 : w.heap.size ≤ w4.heap.size := Nat.le_trans hb.size hb4.size
      obtain ⟨v', w5, hr, o5, hb5, _⟩ := run_append_nums (P := Tryd.prog) (ty := 22) (cap := 4) Tryd.underlying22 info5 (by decide) o4 hj.rd (fun h => by cases h) (by rw [← HLK.out, List.length_reverse, length_le]; omega) hs4
      rw [show (le 4 x).reverse.length = 4 from length_be4 x] at hr
      have HR := Lib.hid hr
      have HO5 := Lib.hid o5
      have hb6 : Below w.heap.size w w5 := (hb.trans (hb4.mono hb.size)).trans hb5
      clear hr o5 hj hb4 hb5 o4 HOWN hb
      go_wp2_with ((with_reducible refine is_append 22 rfl ?_); (with_reducible refine wpList_append_run rfl rfl HR.out ?_ ?_ ?_); (· rfl); (· rfl))
      go_roundw
      case rel => exact ⟨k + 1, by omega, by go_num, by rw [← HE.out]; exact HO5.out, hb6⟩
      case measure => simp [intOf]; omega
    · have hk8 : k = S.length := by rw [HS8.out]; omega
      rw [hk8, List.take_length] at hown
      clear hk8
      obtain ⟨A', cap', rfl, h1, h2, h3, h4, h5⟩ := hown.form
      have hl32 : (be4s S).length = 32 := by rw [length_be4s, HS8.out]
      rw [hl32]
      rw [← ESH.out] at h5
      have H5 := Lib.hid h5
      have H3 := Lib.hid h3
      clear h5 h4 h3 hl32 hown
      go_wp2
      go_ret
      exact ⟨A', cap', rfl, H3.out, H5.out, hb⟩
end Go.Proofs.YtnankgophbjioaaDoor
