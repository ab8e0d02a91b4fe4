
/- Package blake: a new digest, the sum, the calls as a law meets them. -/
import Derived.Test.YtgcboodlneknpaaDoorBlakeE
import Derived.Test.YtgcboodlneknpaaDoorApp
namespace Go.Proofs.YtgcboodlneknpaaDoor
open Go.RowKit

theorem bcells_nil : bcells [] = bdigC zeros8B (pad [] 128) 0 0 := by
  show bC [] 0 = _
  unfold bC
  rw [bch_zero]
  rfl
theorem zero_bdig : ∀ w, (zeroValue 34).run Tryd.prog w = .ok (.agg (bcells [])) w := by
  rw [bcells_nil]
  exact (zero_of_info (n := 138) (by kernel_rfl)).1
theorem size_bdig : (Tryd.prog.info? 34).map (·.size) = some 138 := by kernel_rfl
set_option maxRecDepth 100000 in
theorem blake_new (w : World) : Calls Tryd.prog 9 #[] w fun e w' => e = .returned (.pointer (some ⟨w.heap.size, 0, none⟩)) ∧ Blk w' w.heap.size 34 (bcells []) ∧ Below w.heap.size w w' := by
  have HZ := zero_bdig
  have HC := Lib.hid (Blk.fresh w 34 (bcells []))
  generalize bcells [] = C at *
  go_enter Tryd.func9, Tryd.ntmps9
  go_wp2
  go_ret
  exact ⟨rfl, HC.out, below_alloc w _⟩

theorem bdigC_one (a b : List Int) (h n : Int) : (bdigC a b h n).all (·.oneCell') = true := by
  unfold bdigC
  rw [Array.all_append, Array.all_append, nums_one, nums_one]
  simp [Value.oneCell']
theorem bcells_one (l : List Int) : (bcells l).all (·.oneCell') = true := bdigC_one _ _ _ _
theorem bcells_size (l : List Int) : (bcells l).size = 138 := bC_size _ _
theorem load_bdig {w : World} {g : Nat} {l : List Int} (hg : Blk w g 34 (bcells l)) : (Instr.loadAt 34 (.pointer (some ⟨g, 0, none⟩))).run Tryd.prog w = .ok (.agg (bcells l)) w :=
  run_load_all hg Tryd.underlying34 rfl (by rw [bcells_size]; exact size_bdig)
theorem store_bdig (w : World) (l : List Int) (c : Array Value) (hc : c.size = 138) : (Instr.storeAt 34 (.pointer (some ⟨w.heap.size, 0, none⟩)) (.agg (bcells l))).run Tryd.prog (w.alloc (.cells c 34)) = .ok () (w.alloc (.cells (bcells l) 34)) :=
  run_storeAt_new w 34 c (bcells l) (by rw [bcells_size]; exact size_bdig) (by rw [hc, bcells_size]) (bcells_one l)
theorem getD_stL (ch : List Int) (i : Nat) (h : i < 8) : (stL ch).getD i 0 = stN ch i := getD_map_range _ _ _ h
set_option maxRecDepth 100000 in
set_option maxHeartbeats 1000000 in
theorem blake_sum (w : World) (g : Nat) (l : List Int) (hl : l.length ≤ 900000000) (bl : ByteL l) (hg : Blk w g 34 (bcells l)) (T : BTabs w) :
    Calls Tryd.prog 11 #[.pointer (some ⟨g, 0, none⟩)] w fun e w' => ∃ A cap, e = .returned (.slice A 32 cap) ∧ (A = none → cap = 0) ∧ Rd w' w'.heap.size .u8 A (blakeL l) ∧ Below w.heap.size w w' := by
  have HL := Lib.hid (load_bdig hg)
  have HS := Lib.hid (fun c hc => store_bdig w l c hc)
  have HZ := zero_bdig
  have Hz0 := Lib.hid (bcells_size [])
  generalize bcells [] = C at *
  have hgl := hg.lt
  go_enter Tryd.func11, Tryd.ntmps11
  go_wp2_with (first | ((with_reducible refine is_load 34 rfl ?_); (with_reducible refine wpList_load_run rfl rfl HL.out ?_ ?_); (· rfl)) | ((with_reducible refine is_store 34 rfl ?_); (with_reducible refine wpList_store_run rfl rfl (HS.out _ Hz0.out) ?_ ?_ ?_); (· rfl); (· rfl)))
  have hb0 : Below w.heap.size w (w.alloc (.cells (bcells l) 34)) := below_alloc w _
  have b0 : Blk (w.alloc (.cells (bcells l) 34)) w.heap.size 34 (bcells l) := Blk.fresh _ _ _
  have htwo := T.top
  have hMIX := Lib.hid (blake_mix (w.alloc (.cells (bcells l) 34)) w.heap.size (bch l (bnb l.length)) (pad (l.drop (128 * bnb l.length)) 128) _ (l.length : Nat) true (length_bch _ _) (in6_bch _ _ (by have := bnb_le l.length; omega)) (length_pad _ _) ((byte_drop bl _).pad 128) (by omega) b0 (T.below hb0) htwo)
  have EB : Hid (bend l = stL (mixed (bch l (bnb l.length)) (pad (l.drop (128 * bnb l.length)) 128) (l.length : Nat) true)) := rfl
  have hML := length_mixed (bch l (bnb l.length)) (pad (l.drop (128 * bnb l.length)) 128) (l.length : Nat) true
  have hMI : In6 (mixed (bch l (bnb l.length)) (pad (l.drop (128 * bnb l.length)) 128) (l.length : Nat) true) := in6_mixed (in6_bch _ _ (by have := bnb_le l.length; omega)) _ _ (by omega) _
  generalize mixed (bch l (bnb l.length)) (pad (l.drop (128 * bnb l.length)) 128) (l.length : Nat) true = M at *
  have ESH : Hid (blakeL l = le8s ((bend l).take 4)) := rfl
  have iB : In6 (bend l) := by rw [EB.out]; exact in6_stL hMI
  have lB : Hid ((bend l).length = 8) := length_bend l
  have SB : Hid (∀ i, i < 8 → stN M i = (bend l).getD i 0) := by unfold Hid; intro i hi; rw [EB.out, getD_stL _ _ hi]
  clear HL HS
  refine hMIX.out.mono ?_
  rintro e w1 ⟨rfl, b1, o1⟩
  have hb1 : Below w.heap.size w w1 := hb0.trans (o1.below (Nat.le_refl _) hb0.size)
  have n1 : w.heap.size < w1.heap.size := b1.lt
  have T1 := Lib.hid (T.below hb1)
  clear hb0 b0 hMIX o1 EB hMI
  have B1 := Lib.hid b1
  clear b1
  generalize bend l = S at *
  go_wp2_with fail
  go_loopw [4, 12] (fun v i wr => ∃ k : Nat, k ≤ 4 ∧ i = .int .i64 k ∧ Own wr (w.heap.size + 1) .u8 5 v (le8s (S.take k)) ∧ Below (w.heap.size + 1) w1 wr) (fun _ i _ => 4 - (intOf i).toNat)
  case atStart => exact ⟨0, by decide, rfl, Own.nil _ _ _ _, Below.refl _ _⟩
  case round =>
    obtain ⟨k, hk, rfl, hown, hb⟩ := hrel
    by_cases hlt : k < 4
    · have hk8 : k < 8 := by omega
      have bk := B1.out.below hb (by omega)
      have ST := Lib.hid (blake_state wr w.heap.size M k hk8 ((bk.cell k).trans (bdigC_ch _ _ _ _ k (by omega))) (T1.out.low hb (by omega)))
      rw [SB.out k hk8] at ST
      have HE := Lib.hid (le8s_take S k (by rw [lB.out]; exact hk8))
      have rx := iB.get k
      have hlk : 8 * k = (le8s (S.take k)).length := by rw [length_le8s, List.length_take, lB.out]; omega
      obtain ⟨x, ex⟩ : ∃ x, S.getD k 0 = x := ⟨_, rfl⟩
      rw [ex] at ST HE rx
      clear ex bk
      have HOWN := Lib.hid hown
      have HLK := Lib.hid hlk
      clear hown hlk
      go_wp2_with fail
      refine ST.out.mono ?_
      rintro e w3 ⟨rfl, hb3⟩
      have o3 := HOWN.out.below hb3
      have hs3 : w.heap.size + 1 ≤ w3.heap.size := Nat.le_trans (Nat.le_trans n1 hb.size) hb3.size
      have hbx := hb.trans (hb3.mono (Nat.le_trans n1 hb.size))
      clear ST HOWN hb hb3
      go_wp2_with fail
      refine (PutLittle64 _ x rx.1).mono ?_
      rintro e w4 ⟨j, rfl, hj, hb4⟩
      have o4 := o3.below hb4
      have hs4 : w.heap.size + 1 ≤ w4.heap.size := Nat.le_trans hs3 hb4.size
      obtain ⟨v', w5, hr, o5, hb5, _⟩ := run_append_nums (P := Tryd.prog) (ty := 22) (cap := 8) Tryd.underlying22 info5 (by decide) o4 hj.rd (fun h => by cases h) (by rw [← HLK.out, length_le]; omega) hs4
      rw [length_le] at hr
      have HR := Lib.hid hr
      have HO5 := Lib.hid o5
      have hb6 : Below (w.heap.size + 1) w1 w5 := (hbx.trans (hb4.mono hs3)).trans hb5
      clear hr o5 hj hb4 hb5 o4 o3 hbx
      go_wp2_with ((with_reducible refine is_append 22 rfl ?_); (with_reducible refine wpList_append_run rfl rfl HR.out ?_ ?_ ?_); (· rfl); (· rfl))
      go_roundw
      case rel => exact ⟨k + 1, by omega, by go_num, by rw [← HE.out]; exact HO5.out, hb6⟩
      case measure => simp [intOf]; omega
    · have hk4 : k = 4 := by omega
      rw [hk4] at hown
      clear hk4
      obtain ⟨A', cap', rfl, h1, h2, h3, h4, h5⟩ := hown.form
      have hl32 : (le8s (S.take 4)).length = 32 := by rw [length_le8s, List.length_take, lB.out]; rfl
      rw [hl32]
      rw [← ESH.out] at h5
      have H5 := Lib.hid h5
      have H3 := Lib.hid h3
      have hbw := hb1.trans (hb.mono (Nat.le_succ _))
      clear h5 h4 h3 hl32 hown
      go_wp2
      go_ret
      exact ⟨A', cap', rfl, H3.out, H5.out, hbw⟩

set_option maxHeartbeats 400000 in
theorem blake_Sum (w : World) (zs : List Int) (A : Option Addr) (cap : Nat) (hl : zs.length ≤ 900000000) (bz : ByteL zs) (hcap : zs.length ≤ cap) (hr : Rd w w.heap.size .u8 A zs) (T : BTabs w) :
    Calls Tryd.prog 7 #[.slice A zs.length cap] w fun e w' => ∃ A cap, e = .returned (.slice A 32 cap) ∧ (A = none → cap = 0) ∧ Rd w' w'.heap.size .u8 A (blakeL zs) ∧ Below w.heap.size w w' := by
  have htwo := T.top
  go_enter Tryd.func7, Tryd.ntmps7
  go_wp2_with fail
  refine (blake_new w).mono ?_
  rintro e w1 ⟨rfl, hg1, hb1⟩
  have hx : RdX w1 w.heap.size .u8 A zs := (hr.below hb1).x (Nat.le_refl _) hb1.size
  have HW := Lib.hid (blake_write w1 w.heap.size [] zs A cap (by simp; omega) (fun c hc => by simp at hc) bz hcap hg1 hx (T.below hb1) htwo)
  rw [List.nil_append] at HW
  have T1 := Lib.hid (T.below hb1)
  clear hg1 hx
  go_wp2_with fail
  refine HW.out.mono ?_
  rintro e w2 ⟨rfl, hg2, ho2⟩
  have HS := Lib.hid (blake_sum w2 w.heap.size zs hl bz hg2 (T1.out.only ho2 htwo))
  have hb2 : Below w.heap.size w w2 := hb1.trans (ho2.below (Nat.le_refl _) hb1.size)
  clear hg2 ho2 HW
  go_wp2_with fail
  refine HS.out.mono ?_
  rintro e w3 ⟨A', cap', rfl, h1, h2, h3⟩
  go_wp2
  go_ret
  exact ⟨A', cap', rfl, h1, h2, hb2.trans (h3.mono hb2.size)⟩
theorem blake_len (w : World) (g : Nat) (l : List Int) (hg : Blk w g 34 (bcells l)) :
    Calls Tryd.prog 12 #[.pointer (some ⟨g, 0, none⟩)] w fun e w' => e = .returned (.int .u64 l.length) ∧ w = w' := by
  have c137 : w.cell? ⟨g, 137, none⟩ = some (.int .u64 l.length) := (hg.cell 137).trans (bC_len _ _)
  clear hg
  generalize l.length = n at *
  go_enter Tryd.func12, Tryd.ntmps12
  go_wp2
  go_ret
  exact ⟨rfl, rfl⟩
theorem blake_write_nil (w : World) (v : Value) : Calls Tryd.prog 10 #[.pointer none, v] w fun e w' => e = .returned (.tuple #[]) ∧ w = w' := by
  go_enter Tryd.func10, Tryd.ntmps10
  go_wp2
  exact bodyPost_ret (results_none rfl _ _ _) rfl ⟨rfl, rfl⟩
theorem blake_sum_nil (w : World) : Calls Tryd.prog 11 #[.pointer none] w fun e w' => e = .returned (.slice none 0 0) ∧ w = w' := by
  go_enter Tryd.func11, Tryd.ntmps11
  go_wp2
  go_ret
  exact ⟨rfl, rfl⟩
theorem blake_len_nil (w : World) : Calls Tryd.prog 12 #[.pointer none] w fun e w' => e = .returned (.int .u64 0) ∧ w = w' := by
  go_enter Tryd.func12, Tryd.ntmps12
  go_wp2
  go_ret
  exact ⟨rfl, rfl⟩
end Go.Proofs.YtgcboodlneknpaaDoor
