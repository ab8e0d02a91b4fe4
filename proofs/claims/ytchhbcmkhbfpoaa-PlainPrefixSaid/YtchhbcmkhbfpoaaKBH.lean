/- Package auto: begin, end. -/
import Derived.Test.YtchhbcmkhbfpoaaKBG
import Derived.Test.YtchhbcmkhbfpoaaKAO
import Derived.Test.YtchhbcmkhbfpoaaKAR
namespace Go.Proofs.Ytchhbcmkhbfpoaa
open Go.RowKit

/-- What a byte that isn't wrong brings. -/
structure NW where
  kind : Int
  major : Int
  width : Int
  arg : Int
  byte : Int
  deep : Int
  ended : Int
  key : Bool
def NW.cells (n : NW) : Array Value := #[.int .i64 n.kind, .int .i64 n.major, .int .i64 n.width, .int .u64 n.arg, .int .u8 n.byte, .int .i64 n.deep, .int .i64 n.ended, .bool n.key]
def nw0 : NW := ⟨0, 0, 0, 0, 0, 0, 0, false⟩
theorem nw_zero : ∀ w, (zeroValue 78).run Try.prog w = .ok (.agg nw0.cells) w := (zero_of_info (n := 8) (by kernel_rfl)).1
theorem nw_info : (Try.prog.info? 78).map (·.size) = some 8 := by kernel_rfl
theorem nw_one (n : NW) : n.cells.all (·.oneCell') = true := by
  rw [Array.all_eq_true_iff_forall_mem]
  intro x hx
  simp [NW.cells] at hx
  rcases hx with rfl | rfl | rfl | rfl | rfl | rfl | rfl | rfl <;> rfl
theorem nw_store {w : World} {g : Nat} {t : TypeId} {n : NW} (h : Blk w g t n.cells) (n' : NW) : (Instr.storeAt 78 (.pointer (some ⟨g, 0, none⟩)) (.agg n'.cells)).run Try.prog w = .ok () (w.setRow g n'.cells) := run_store_all h nw_info rfl (nw_one n')
theorem nw_load {w : World} {g : Nat} {t : TypeId} {n : NW} (h : Blk w g t n.cells) : (Instr.loadAt 78 (.pointer (some ⟨g, 0, none⟩))).run Try.prog w = .ok (.agg n.cells) w := run_load_all h Try.underlying78 rfl nw_info

/-- What begin answers, what is open then, and what the automaton holds. -/
def begX (x : AC) (m g : Int) : AC := if m = 2 ∨ m = 3 then { x with u := uq0, text := g } else x
section
variable {w w' : World} {own : Nat → Nat} {a f D K : Nat} {st : List Fr} {x : AC}
theorem enter_text {m g : Int} (hm : m = 2 ∨ m = 3) : (enter st m g).isEnded = decide (g = 0) ∧ (enter st m g).st = st := by
  unfold enter
  rw [if_pos hm]
  split
  · next h => exact ⟨by rw [decide_eq_true h]; rfl, rfl⟩
  · next h => exact ⟨by rw [decide_eq_false h]; rfl, rfl⟩
end
set_option maxRecDepth 4000 in
set_option maxHeartbeats 1000000 in
theorem auto_begin (w : World) (own : Nat → Nat) (a f D K : Nat) (st : List Fr) (x : AC) (m W g : Int) (h : Aut w own a f D K st x) (hlt : st.length < D) (hg : 0 ≤ g) :
    Calls Try.prog 54 #[.pointer (some ⟨a, 0, none⟩), .agg (h3cells m W g)] w fun e w' => e = .returned (.bool (!(enter st m g).isEnded)) ∧ Aut w' own a f D K (enter st m g).st (begX x m g) ∧ Wi (SA own a) w w' := by
  have b0 : Blk (w.alloc (.cells (h3cells m W g) 40)) w.heap.size 40 (h3cells m W g) := Blk.fresh _ _ _
  have S : Below w.heap.size w (w.alloc (.cells (h3cells m W g) 40)) := below_alloc _ _
  have h1 := h.on S
  have hne : a ≠ w.heap.size := by have := h.lt; omega
  unfold h3cells at b0 S h1 ⊢
  obtain ⟨w1, hw1⟩ : ∃ w1, w.alloc (.cells #[.int .i64 m, .int .i64 W, .int .u64 g] 40) = w1 := ⟨_, rfl⟩
  rw [hw1] at b0 S h1
  have c0 : w1.cell? ⟨w.heap.size, 0, none⟩ = some (.int .i64 m) := b0.cell 0
  have c2 : w1.cell? ⟨w.heap.size, 2, none⟩ = some (.int .u64 g) := b0.cell 2
  by_cases hm2 : m = 2 ∨ m = 3
  · have he := enter_text (st := st) (g := g) hm2
    rw [he.1, he.2]
    have HR := Lib.hid (utf_resetO x.u w1 a (au_walk h1.blk))
    have HX : Hid (∀ w2, Fd w2 a 11 73 x.u0 (ucells uq0) x.u1 → Only a w1 w2 → (w2.cell? ⟨w.heap.size, 2, none⟩ = some (.int .u64 g) ∧ w2.frozen? ⟨a, 10, none⟩ = false ∧ (w2.setCell ⟨a, 10, none⟩ (.int .u64 g)).cell? ⟨w.heap.size, 2, none⟩ = some (.int .u64 g) ∧ w2.cell? ⟨a, 10, none⟩ = some (.int .u64 x.text)) ∧ Aut (w2.setCell ⟨a, 10, none⟩ (.int .u64 g)) own a f D K st (begX x m g) ∧ Wi (SA own a) w (w2.setCell ⟨a, 10, none⟩ (.int .u64 g))) := fun w2 hf ho => by
      have hb := au_walk' hf
      have b2 := b0.only ho (Ne.symm hne)
      have b3 := b2.far (p := ⟨a, 10, none⟩) (Ne.symm hne) (.int .u64 g)
      have e : begX x m g = { x with u := uq0, text := g } := if_pos hm2
      rw [e]
      exact ⟨⟨b2.cell 2, hb.free 10, b3.cell 2, hb.cell 10⟩, h1.ofA (ho.put 10 _) (hb.put 10 _) rfl rfl rfl, ((Wi.ofBelow S).trans (.saO ho)).trans (.saO ((Only.refl a w2).put 10 _))⟩
    clear h h1 b0 S he
    generalize begX x m g = x' at *
    generalize x.u0 = u0 at *
    generalize x.u1 = u1 at *
    generalize x.text = tx at *
    have hgi : decide (0 < g) = !decide (g = 0) := by by_cases hg0 : g = 0 <;> simp [hg0]; omega
    have HG := Lib.hid hgi
    clear hgi
    rcases hm2 with rfl | rfl
    all_goals
      go_enter Try.func54, Try.ntmps54
      go_wp2_with fail
      refine HR.out.mono ?_
      rintro e w2 ⟨rfl, b2, o2⟩
      obtain ⟨⟨q1, q2, q3, q4⟩, q5⟩ := HX.out w2 b2 o2
      have H5 := Lib.hid q5
      clear b2 o2 q5 HX HR
      go_wp2_with fail
      go_ret
      exact ⟨by rw [← HG.out]; rfl, H5.out⟩
  · have hx : begX x m g = x := if_neg hm2
    rw [hx]
    by_cases hm4 : m = 4 ∨ m = 5
    · by_cases hg0 : g = 0
      · subst hg0
        have he : enter st m 0 = ⟨st, .ended⟩ := by unfold enter; rw [if_neg hm2, if_pos hm4, if_pos rfl]
        rw [he]
        obtain ⟨_, _, _, c3, _⟩ := au_cells h1.blk
        have HO := Lib.hid (fun q => frame_Open0 (w1.drewN q) own x.s f D K st m (h1.stk.on (below_drawnN (Below.refl _ _) q)) hlt hm4)
        have HX : Hid (∀ q w2, Below (w1.drewN q).heap.size (w1.drewN q) w2 → Aut w2 own a f D K st x ∧ Wi (SA own a) w w2) := fun q w2 hb => by
          have hb' : Below w1.heap.size w1 w2 := (below_drawnN (Below.refl _ _) q).trans hb
          exact ⟨h1.on hb', (Wi.ofBelow S).trans (.ofBelow hb')⟩
        clear h h1 b0 S he hx hm2
        generalize x.s = s at *
        rcases hm4 with rfl | rfl
        all_goals
          go_enter Try.func54, Try.ntmps54
          go_wp2_with fail
          refine wp_region_quiet_tail 8 (by kernel_rfl) (by kernel_rfl) ?_
          simp only [List.take_succ_cons, List.take_zero, List.drop_succ_cons, List.drop_zero]
          repeat (quiet_step (fail))
          refine wpQuiet_nil ?_
          rintro _ ⟨q0, rfl⟩
          go_wp2_with fail
          refine (HO.out q0).mono ?_
          rintro e w2 ⟨rfl, hb⟩
          have HY := Lib.hid (HX.out q0 w2 hb)
          clear hb
          go_wp2_with fail
          go_ret
          exact ⟨rfl, HY.out⟩
      · have he : enter st m g = begins (⟨m, g, false, [], [], false⟩ :: st) := by unfold enter; rw [if_neg hm2, if_pos hm4, if_neg hg0]
        rw [he]
        obtain ⟨_, _, _, c3, _⟩ := au_cells h1.blk
        have HO := Lib.hid (fun q => frame_Open (w1.drewN q) own x.s f D K st m g g (h1.stk.on (below_drawnN (Below.refl _ _) q)) hlt (.inl ⟨hm4, hg0, rfl⟩))
        have HX : Hid (∀ q w2, StkR w2 own x.s f D K (⟨m, g, false, [], [], false⟩ :: st) → Wi (Mine own) (w1.drewN q) w2 → Aut w2 own a f D K (begins (⟨m, g, false, [], [], false⟩ :: st)).st x ∧ Wi (SA own a) w w2) := fun q w2 hs hw => by
          have hd : Below w1.heap.size w1 (w1.drewN q) := below_drawnN (Below.refl _ _) q
          exact ⟨(h1.on hd).ofS hw hs, ((Wi.ofBelow S).trans (.ofBelow hd)).trans hw.sa⟩
        clear h h1 b0 S he hx hm2
        generalize x.s = s at *
        rcases hm4 with rfl | rfl
        all_goals
          go_enter Try.func54, Try.ntmps54
          go_wp2_with fail
          refine wp_region_quiet_tail 8 (by kernel_rfl) (by kernel_rfl) ?_
          simp only [List.take_succ_cons, List.take_zero, List.drop_succ_cons, List.drop_zero]
          repeat (quiet_step (fail))
          refine wpQuiet_nil ?_
          rintro _ ⟨q0, rfl⟩
          go_wp2_with fail
          refine (HO.out q0).mono ?_
          rintro e w2 ⟨rfl, hs, hw⟩
          have HY := Lib.hid (HX.out q0 w2 hs hw)
          clear hs hw
          go_wp2_with fail
          go_ret
          exact ⟨rfl, HY.out⟩
    · by_cases hm6 : m = 6
      · subst hm6
        have he : enter st 6 g = begins (⟨6, 1, false, [], [], false⟩ :: st) := by unfold enter; rw [if_neg hm2, if_neg hm4, if_pos rfl]
        rw [he]
        obtain ⟨_, _, _, c3, _⟩ := au_cells h1.blk
        have HO := Lib.hid (fun q => frame_Open (w1.drewN q) own x.s f D K st 6 g 1 (h1.stk.on (below_drawnN (Below.refl _ _) q)) hlt (.inr ⟨rfl, rfl⟩))
        have HX : Hid (∀ q w2, StkR w2 own x.s f D K (⟨6, 1, false, [], [], false⟩ :: st) → Wi (Mine own) (w1.drewN q) w2 → Aut w2 own a f D K (begins (⟨6, 1, false, [], [], false⟩ :: st)).st x ∧ Wi (SA own a) w w2) := fun q w2 hs hw => by
          have hd : Below w1.heap.size w1 (w1.drewN q) := below_drawnN (Below.refl _ _) q
          exact ⟨(h1.on hd).ofS hw hs, ((Wi.ofBelow S).trans (.ofBelow hd)).trans hw.sa⟩
        clear h h1 b0 S he hx hm2 hm4
        generalize x.s = s at *
        go_enter Try.func54, Try.ntmps54
        go_wp2_with fail
        refine wp_region_quiet_tail 8 (by kernel_rfl) (by kernel_rfl) ?_
        simp only [List.take_succ_cons, List.take_zero, List.drop_succ_cons, List.drop_zero]
        repeat (quiet_step (fail))
        refine wpQuiet_nil ?_
        rintro _ ⟨q0, rfl⟩
        go_wp2_with fail
        refine (HO.out q0).mono ?_
        rintro e w2 ⟨rfl, hs, hw⟩
        have HY := Lib.hid (HX.out q0 w2 hs hw)
        clear hs hw
        go_wp2_with fail
        go_ret
        exact ⟨rfl, HY.out⟩
      · have he : enter st m g = ⟨st, .ended⟩ := by unfold enter; rw [if_neg hm2, if_neg hm4, if_neg hm6]
        rw [he]
        have HX : Hid (Aut w1 own a f D K st x ∧ Wi (SA own a) w w1) := ⟨h1, .ofBelow S⟩
        have n2 : ¬ m = 2 := fun e => hm2 (.inl e)
        have n3 : ¬ m = 3 := fun e => hm2 (.inr e)
        have n4 : ¬ m = 4 := fun e => hm4 (.inl e)
        have n5 : ¬ m = 5 := fun e => hm4 (.inr e)
        clear h h1 b0 S he hx hm2 hm4
        go_enter Try.func54, Try.ntmps54
        go_wp2_with fail
        go_ret
        exact ⟨rfl, HX.out⟩
end Go.Proofs.Ytchhbcmkhbfpoaa

/- Package auto: end. -/
namespace Go.Proofs.Ytchhbcmkhbfpoaa
open Go.RowKit

/-- Did a map's key end? -/
def keyE (st : List Fr) : Bool := kindS st == 5 && !keyS st
def NW.over (n : NW) (st : List Fr) : NW := { n with ended := ((endS st).2.2.length : Int) + 1, key := keyE (endS st).2.2 }
set_option maxRecDepth 4000 in
set_option maxHeartbeats 2000000 in
theorem auto_end (w : World) (own : Nat → Nat) (a f D K : Nat) (st : List Fr) (x : AC) (n : NW) (h : Aut w own a f D K st x) (hL : LOk st) :
    Calls Try.prog 52 #[.pointer (some ⟨a, 0, none⟩), .agg n.cells] w fun e w' =>
      ((endS st).1 = false → e = .returned (.tuple #[.agg nw0.cells, .int .i64 7]) ∧ AutW w' own a f D K x) ∧
      ((endS st).1 = true → e = .returned (.tuple #[.agg (n.over st).cells, .int .i64 0]) ∧ Aut w' own a f D K (endS st).2.2 { x with done := (endS st).2.1 }) ∧ Wi (SA own a) w w' := by
  have HZ := nw_zero
  have b0 : Blk (w.alloc (.cells n.cells 78)) w.heap.size 78 n.cells := Blk.fresh _ _ _
  have S0 : Below w.heap.size w (w.alloc (.cells n.cells 78)) := below_alloc _ _
  have hsz : (w.alloc (.cells n.cells 78)).heap.size = w.heap.size + 1 := by simp
  obtain ⟨w1, hw1⟩ : ∃ w1, w.alloc (.cells n.cells 78) = w1 := ⟨_, rfl⟩
  rw [hw1] at b0 S0 hsz
  have b1 : Blk (w1.alloc (.cells nw0.cells 78)) (w.heap.size + 1) 78 nw0.cells := Blk.freshAt _ _ _ _ hsz.symm
  have c1 := b0.alloc (.cells nw0.cells 78)
  have S1 : Below w.heap.size w (w1.alloc (.cells nw0.cells 78)) := S0.alloc (by omega) _
  have hsz2 : (w1.alloc (.cells nw0.cells 78)).heap.size = w.heap.size + 2 := by simp [hsz]
  obtain ⟨w2, hw2⟩ : ∃ w2, w1.alloc (.cells nw0.cells 78) = w2 := ⟨_, rfl⟩
  rw [hw2] at b1 c1 S1 hsz2
  have h2 := h.on S1
  have ha := h.lt
  obtain ⟨_, _, _, c3, _⟩ := au_cells h2.blk
  have HE := Lib.hid (frame_End w2 own x.s f D K st h2.stk hL)
  -- behind the ends: what the worlds hold
  have HX : Hid (∀ w3, StkR w3 own x.s f D K (endS st).2.2 → Wi (Mine own) w2 w3 → Blk w3 w.heap.size 78 n.cells ∧ Blk w3 (w.heap.size + 1) 78 nw0.cells ∧ Aut w3 own a f D K (endS st).2.2 x ∧ Wi (SA own a) w w3) := fun w3 hs hw => by
    exact ⟨hw.blk c1 (h.fresh (Nat.le_refl _)), hw.blk b1 (h.fresh (by omega)), h2.ofS hw hs, (Wi.ofBelow S1).trans hw.sa⟩
  obtain ⟨G, hG⟩ : ∃ G, w.heap.size = G := ⟨_, rfl⟩
  rw [hG] at hsz2 ha
  cases hr : (endS st).1 with
  | false =>
    rw [hr] at HE
    have HW : Hid (∀ w3, StkR w3 own x.s f D K (endS st).2.2 → Wi (Mine own) w2 w3 → (Instr.storeAt 78 (.pointer (some ⟨G + 1, 0, none⟩)) (.agg nw0.cells)).run Try.prog w3 = .ok () (w3.setRow (G + 1) nw0.cells) ∧ Blk (w3.setRow (G + 1) nw0.cells) (G + 1) 78 nw0.cells ∧ AutW (w3.setRow (G + 1) nw0.cells) own a f D K x ∧ Wi (SA own a) w (w3.setRow (G + 1) nw0.cells)) := fun w3 hs hw => by
      obtain ⟨d1, d2, d3, d4⟩ := HX.out w3 hs hw
      rw [hG] at d2
      exact ⟨nw_store d2 nw0, d2.setRow _, d3.weak.only (only_row _ _) (h.freshA (by omega)), d4.fresh (only_row _ _) (by omega)⟩
    generalize (endS st).2.2 = st' at *
    generalize (endS st).2.1 = dn at *
    clear h h2 HX b0 b1 c1 S0 S1 hL
    obtain ⟨N0, hN0⟩ : ∃ N0, nw0.cells = N0 := ⟨_, rfl⟩
    obtain ⟨N1, hN1⟩ : ∃ N1, n.cells = N1 := ⟨_, rfl⟩
    rw [hN0] at HZ hw2 HW ⊢
    rw [hN1] at hw1 ⊢
    generalize x.s = s at *
    have hi8 : (Try.prog.info? 78).map (·.size) = some N0.size := by rw [← hN0]; exact nw_info
    clear hN0 hN1
    go_enter Try.func52, Try.ntmps52
    go_wp2_with fail
    refine HE.out.mono ?_
    rintro e w3 ⟨rfl, hs, hw⟩
    obtain ⟨q1, q2, q3, q4⟩ := HW.out w3 hs hw
    have H1 := Lib.hid q1
    have H2 := Lib.hid q2
    have H3 := Lib.hid q3
    have H4 := Lib.hid q4
    clear hs hw q1 q2 q3 q4 HW
    go_wp2_with ((with_reducible refine is_store 78 rfl ?_); (with_reducible refine wpList_store_run rfl rfl H1.out ?_ ?_ ?_); (· rfl); (· rfl))
    exact bodyPost_ret (results_blk2 rfl _ rfl H2.out Try.underlying78 rfl hi8) rfl ⟨fun _ => ⟨rfl, H3.out⟩, fun h => (by cases h), H4.out⟩
  | true =>
    rw [hr] at HE
    have HW : Hid (∀ w3, StkR w3 own x.s f D K (endS st).2.2 → Wi (Mine own) w2 w3 → (w3.cell? ⟨a, 16, none⟩ = some (.bool x.done) ∧ w3.frozen? ⟨a, 16, none⟩ = false) ∧ ∀ w4, w3.setCell ⟨a, 16, none⟩ (.bool (endS st).2.1) = w4 →
        (w4.cell? ⟨G, 6, none⟩ = some (.int .i64 n.ended) ∧ w4.frozen? ⟨G, 6, none⟩ = false) ∧ Calls Try.prog 51 #[.pointer (some ⟨a, 0, none⟩)] w4 (fun e w' => e = .returned (.int .i64 ((endS st).2.2.length + 1)) ∧ w' = w4) ∧
        ∀ w5, w4.setCell ⟨G, 6, none⟩ (.int .i64 ((endS st).2.2.length + 1)) = w5 → w5.cell? ⟨a, 3, none⟩ = some (.pointer (some ⟨x.s, 0, none⟩)) ∧ Calls Try.prog 64 #[.pointer (some ⟨x.s, 0, none⟩)] w5 (fun e w' => e = .returned (.int .i64 (kindS (endS st).2.2)) ∧ Below w5.heap.size w5 w') ∧
        ∀ w6, Below w5.heap.size w5 w6 → w6.cell? ⟨a, 3, none⟩ = some (.pointer (some ⟨x.s, 0, none⟩)) ∧ Calls Try.prog 65 #[.pointer (some ⟨x.s, 0, none⟩)] w6 (fun e w' => e = .returned (.bool (keyS (endS st).2.2)) ∧ Below w6.heap.size w6 w') ∧
        ∀ w7, Below w5.heap.size w5 w7 → (w7.cell? ⟨G, 7, none⟩ = some (.bool n.key) ∧ w7.frozen? ⟨G, 7, none⟩ = false) ∧ 
        ∀ w8, w7.setCell ⟨G, 7, none⟩ (.bool (keyE (endS st).2.2)) = w8 → (Instr.loadAt 78 (.pointer (some ⟨G, 0, none⟩))).run Try.prog w8 = .ok (.agg (n.over st).cells) w8 ∧ (Instr.storeAt 78 (.pointer (some ⟨G + 1, 0, none⟩)) (.agg (n.over st).cells)).run Try.prog w8 = .ok () (w8.setRow (G + 1) (n.over st).cells) ∧ Blk (w8.setRow (G + 1) (n.over st).cells) (G + 1) 78 (n.over st).cells ∧
          Aut (w8.setRow (G + 1) (n.over st).cells) own a f D K (endS st).2.2 { x with done := (endS st).2.1 } ∧ Wi (SA own a) w (w8.setRow (G + 1) (n.over st).cells)) := fun w3 hs hw => by
      obtain ⟨d1, d2, d3, d4⟩ := HX.out w3 hs hw
      rw [hG] at d1 d2
      obtain ⟨_, _, _, _, _, _, x16, _, xz⟩ := au_cells d3.blk
      refine ⟨⟨x16, xz 16⟩, fun w4 h4 => ?_⟩
      have o4 : Only a w3 w4 := h4 ▸ (Only.refl a w3).put 16 _
      have A4 : Aut w4 own a f D K (endS st).2.2 { x with done := (endS st).2.1 } := d3.ofA o4 (h4 ▸ d3.blk.put 16 _) rfl rfl rfl
      have b4 := d1.only o4 (by omega)
      have c4 := d2.only o4 (by omega)
      have W4 := d4.trans (.saO o4)
      refine ⟨⟨b4.cell 6, b4.free 6⟩, auto_deep w4 own a f D K _ _ A4, fun w5 h5 => ?_⟩
      have o5 : Only G w4 w5 := h5 ▸ (Only.refl G w4).put 6 _
      have A5 := A4.only o5 (h.freshA (by omega))
      have b5 : Blk w5 G 78 { n with ended := ((endS st).2.2.length : Int) + 1 }.cells := h5 ▸ b4.put 6 _
      have c5 := c4.only o5 (by omega)
      have W5 := W4.fresh o5 (by omega)
      refine ⟨(au_cells A5.blk).2.2.2.1, frame_Kind w5 own x.s f D K _ A5.stk, fun w6 h6 => ?_⟩
      have A6 := A5.on h6
      refine ⟨(au_cells A6.blk).2.2.2.1, frame_Key w6 own x.s f D K _ A6.stk, fun w7 h7 => ?_⟩
      have A7 := A5.on h7
      have b7 := b5.on h7
      have c7 := c5.on h7
      refine ⟨⟨b7.cell 7, b7.free 7⟩, fun w8 h8 => ?_⟩
      have o8 : Only G w7 w8 := h8 ▸ (Only.refl G w7).put 7 _
      have A8 := A7.only o8 (h.freshA (by omega))
      have b8 : Blk w8 G 78 (n.over st).cells := h8 ▸ b7.put 7 _
      have c8 := c7.only o8 (by omega)
      have W8 := (W5.trans (.ofBelow h7)).fresh o8 (by omega)
      exact ⟨nw_load b8, nw_store c8 _, c8.setRow _, A8.only (only_row _ _) (h.freshA (by omega)), W8.fresh (only_row _ _) (by omega)⟩
    have hkE : keyE (endS st).2.2 = (kindS (endS st).2.2 == 5 && !keyS (endS st).2.2) := rfl
    have hl64 : (endS st).2.2.length ≤ 64 ∨ True := .inr trivial
    generalize keyE (endS st).2.2 = ke at *
    generalize kindS (endS st).2.2 = kd at *
    generalize keyS (endS st).2.2 = kk at *
    generalize ((endS st).2.2.length : Int) + 1 = L at *
    generalize { x with done := (endS st).2.1 } = x' at *
    generalize (endS st).2.2 = st' at *
    generalize (endS st).2.1 = dn at *
    clear h h2 HX b0 b1 c1 S0 S1 hL hl64
    obtain ⟨N0, hN0⟩ : ∃ N0, nw0.cells = N0 := ⟨_, rfl⟩
    obtain ⟨N1, hN1⟩ : ∃ N1, n.cells = N1 := ⟨_, rfl⟩
    obtain ⟨N2, hN2⟩ : ∃ N2, (n.over st).cells = N2 := ⟨_, rfl⟩
    rw [hN0] at HZ hw2
    rw [hN1] at hw1
    rw [hN2] at HW
    rw [hN0, hN1, hN2]
    generalize x.s = s at *
    generalize x.done = xd at *
    generalize n.ended = ne at *
    generalize n.key = nk at *
    have hi8 : (Try.prog.info? 78).map (·.size) = some N2.size := by rw [← hN2]; exact nw_info
    clear hN0 hN1 hN2
    cases hk5 : (kd == 5) with
    | false =>
      have hkd : ¬ kd = 5 := by simpa using hk5
      rw [hk5, Bool.false_and] at hkE
      subst hkE
      go_enter Try.func52, Try.ntmps52
      go_wp2_with fail
      refine HE.out.mono ?_
      rintro e w3 ⟨rfl, hs, hw⟩
      obtain ⟨⟨q1, q2⟩, q3⟩ := HW.out w3 hs hw
      obtain ⟨⟨r1, r2⟩, r3, r4⟩ := q3 _ rfl
      have H3 := Lib.hid r3
      have H4 := Lib.hid r4
      clear hs hw HW r3 r4 q3
      go_wp2_with fail
      refine H3.out.mono ?_
      rintro e w4 ⟨rfl, rfl⟩
      obtain ⟨s1, s2, s3⟩ := H4.out _ rfl
      have H5 := Lib.hid s2
      have H6 := Lib.hid s3
      clear s2 s3 H3 H4
      go_wp2_with fail
      refine H5.out.mono ?_
      rintro e w6 ⟨rfl, b6⟩
      obtain ⟨t1, t2, t3⟩ := H6.out _ b6
      obtain ⟨⟨u1, u2⟩, u3⟩ := t3 _ b6
      obtain ⟨v1, v2, v3, v4, v5⟩ := u3 _ rfl
      have V1 := Lib.hid v1
      have V2 := Lib.hid v2
      have V3 := Lib.hid v3
      have V4 := Lib.hid v4
      have V5 := Lib.hid v5
      clear b6 t2 t3 u3 v1 v2 v3 v4 v5 H5 H6
      go_wp2_with (first | ((with_reducible refine is_load 78 rfl ?_); (with_reducible refine wpList_load_run rfl rfl V1.out ?_ ?_); (· rfl)) | ((with_reducible refine is_store 78 rfl ?_); (with_reducible refine wpList_store_run rfl rfl V2.out ?_ ?_ ?_); (· rfl); (· rfl)))
      exact bodyPost_ret (results_blk2 rfl _ rfl V3.out Try.underlying78 rfl hi8) rfl ⟨fun h => (by cases h), fun _ => ⟨rfl, V4.out⟩, V5.out⟩
    | true =>
      have hkd : kd = 5 := by simpa using hk5
      subst hkd
      rw [hk5, Bool.true_and] at hkE
      subst hkE
      go_enter Try.func52, Try.ntmps52
      go_wp2_with fail
      refine HE.out.mono ?_
      rintro e w3 ⟨rfl, hs, hw⟩
      obtain ⟨⟨q1, q2⟩, q3⟩ := HW.out w3 hs hw
      obtain ⟨⟨r1, r2⟩, r3, r4⟩ := q3 _ rfl
      have H3 := Lib.hid r3
      have H4 := Lib.hid r4
      clear hs hw HW r3 r4 q3
      go_wp2_with fail
      refine H3.out.mono ?_
      rintro e w4 ⟨rfl, rfl⟩
      obtain ⟨s1, s2, s3⟩ := H4.out _ rfl
      have H5 := Lib.hid s2
      have H6 := Lib.hid s3
      clear s2 s3 H3 H4
      go_wp2_with fail
      refine H5.out.mono ?_
      rintro e w6 ⟨rfl, b6⟩
      obtain ⟨t1, t2, t3⟩ := H6.out _ b6
      have B6 := Lib.hid b6
      have H7 := Lib.hid t2
      have H8 := Lib.hid t3
      clear b6 t2 t3 H5 H6
      go_wp2_with fail
      refine H7.out.mono ?_
      rintro e w7 ⟨rfl, b7⟩
      obtain ⟨⟨u1, u2⟩, u3⟩ := H8.out _ (B6.out.trans (b7.mono B6.out.size))
      obtain ⟨v1, v2, v3, v4, v5⟩ := u3 _ rfl
      have V1 := Lib.hid v1
      have V2 := Lib.hid v2
      have V3 := Lib.hid v3
      have V4 := Lib.hid v4
      have V5 := Lib.hid v5
      clear b7 u3 v1 v2 v3 v4 v5 H7 H8 B6
      go_wp2_with (first | ((with_reducible refine is_load 78 rfl ?_); (with_reducible refine wpList_load_run rfl rfl V1.out ?_ ?_); (· rfl)) | ((with_reducible refine is_store 78 rfl ?_); (with_reducible refine wpList_store_run rfl rfl V2.out ?_ ?_ ?_); (· rfl); (· rfl)))
      exact bodyPost_ret (results_blk2 rfl _ rfl V3.out Try.underlying78 rfl hi8) rfl ⟨fun h => (by cases h), fun _ => ⟨rfl, V4.out⟩, V5.out⟩
end Go.Proofs.Ytchhbcmkhbfpoaa
