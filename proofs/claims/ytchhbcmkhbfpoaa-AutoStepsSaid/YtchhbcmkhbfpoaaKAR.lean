/- Package head: a step, Head, First's parts. -/
import Derived.Test.YtchhbcmkhbfpoaaKAQ
import Derived.StillTailTactics
import Derived.Deep.WholeRow
import Derived.Test.YtchhbcmkhbfpoaaKAN
import Derived.Test.YtchhbcmkhbfpoaaKAO
import Derived.Test.YtchhbcmkhbfpoaaKAB
namespace Go.Proofs.Ytchhbcmkhbfpoaa
open Go.RowKit

def h3cells (m W a : Int) : Array Value := #[.int .i64 m, .int .i64 W, .int .u64 a]
set_option maxHeartbeats 1000000 in
theorem head_shortest (m W a : Int) (h0 : 0 ≤ a) (h1 : a < 18446744073709551616) (w : World) :
    Calls Try.prog 68 #[.agg (h3cells m W a)] w fun e w' => e = .returned (.bool (hshort m W a)) ∧ Below w.heap.size w w' := by
  have HL := Lib.hid (fun w => (head_least a h0 h1 w).mono (fun _ _ h => (⟨h.1, h.2.symm⟩ : _ ∧ _)))
  have HF : Hid (∀ w, Calls Try.prog 80 #[.int .u64 a, .int .i64 W] w fun e w' => e = .returned (.bool (fshort W a)) ∧ Below w.heap.size w w') := by
    intro w
    have := float_Short a.toNat (by omega) W w
    rw [Int.toNat_of_nonneg h0] at this
    exact this.mono fun e w' h => ⟨h.1.eq, h.2⟩
  have b0 : Blk (w.alloc (.cells (h3cells m W a) 40)) w.heap.size 40 (h3cells m W a) := Blk.fresh _ _ _
  have S : Below w.heap.size w (w.alloc (.cells (h3cells m W a) 40)) := below_alloc _ _
  unfold h3cells at b0 S ⊢
  obtain ⟨w1, hw1⟩ : ∃ w1, w.alloc (.cells #[.int .i64 m, .int .i64 W, .int .u64 a] 40) = w1 := ⟨_, rfl⟩
  rw [hw1] at b0 S
  have c0 : w1.cell? ⟨w.heap.size, 0, none⟩ = some (.int .i64 m) := b0.cell 0
  have c1 : w1.cell? ⟨w.heap.size, 1, none⟩ = some (.int .i64 W) := b0.cell 1
  have c2 : w1.cell? ⟨w.heap.size, 2, none⟩ = some (.int .u64 a) := b0.cell 2
  have HS := Lib.hid S
  clear b0 S
  by_cases hm : m = 7 ∧ 1 < W
  · have e1 : hshort m W a = fshort W a := by unfold hshort; rw [if_pos hm]
    rw [e1]
    clear e1
    obtain ⟨rfl, hW⟩ := hm
    generalize fshort W a = b at *
    go_enter Try.func68, Try.ntmps68
    go_wp2_with fail
    refine (HF.out _).mono ?_
    rintro e w2 ⟨rfl, S2⟩
    go_wp2_with fail
    go_ret
    exact ⟨rfl, HS.out.trans (S2.mono HS.out.size)⟩
  · have e1 : hshort m W a = (W == leastW a) := by unfold hshort; rw [if_neg hm]
    rw [e1]
    clear e1
    by_cases h7 : m = 7
    · subst h7
      have hW : ¬ 1 < W := fun h => hm ⟨rfl, h⟩
      clear hm HF
      go_enter Try.func68, Try.ntmps68
      go_wp2_with fail
      go_quiet (with_reducible exact Calls.quiet_of_same (HL.out _))
      have HS2 := Lib.hid (below_drawnN HS.out nq)
      generalize w1.drewN nq = w2 at *
      go_wp2_with fail
      go_ret
      exact ⟨rfl, HS2.out⟩
    · clear hm HF
      go_enter Try.func68, Try.ntmps68
      go_wp2_with fail
      go_quiet (with_reducible exact Calls.quiet_of_same (HL.out _))
      have HS2 := Lib.hid (below_drawnN HS.out nq)
      generalize w1.drewN nq = w2 at *
      go_wp2_with fail
      go_ret
      exact ⟨rfl, HS2.out⟩

theorem hinfo_head : (Try.prog.info? 40).map (·.size) = some 3 := by kernel_rfl
theorem h3_load {w : World} {g : Nat} {q : HQ} (h : Blk w g 69 (hcells q)) :
    (Instr.loadAt 40 (.pointer (some ⟨g, 0, none⟩))).run Try.prog w = .ok (.agg (h3cells q.major q.width q.arg)) w :=
  run_load_blk (a := #[]) (b := #[.int .i64 q.left, .bool q.opn, .int .i64 q.wrong]) (o := 0) h rfl rfl Try.underlying40 rfl (by kernel_rfl)
theorem hcells_open (q : HQ) (b : Bool) : (hcells q).setIfInBounds 4 (.bool b) = hcells { q with opn := b } := rfl
theorem hok_zero : HOk hq0 := by unfold HOk hq0; simp
theorem hok_mid (q : HQ) (c : Int) (hok : HOk q) (hl : q.wrong = 0 → q.opn = true → 0 < q.left) : HOk (hmid q c) := by
  unfold hmid
  split
  · exact hok
  rename_i hw
  have hw : q.wrong = 0 := by omega
  split
  · rename_i ho
    have := hl hw ho
    obtain ⟨a, b, c, d⟩ := hok
    refine ⟨Int.emod_nonneg _ (by decide), Int.emod_lt_of_pos _ (by decide), ?_, ?_⟩
    · show 0 ≤ q.left - 1; omega
    · show q.left - 1 ≤ 8; omega
  · unfold hbegin hbeg HOk hwid
    (repeat' split) <;> simp <;> omega
/-- What a step answers, by the state in its middle. -/
def HPost (g : Nat) (w : World) (p : HQ) (e : Ending) (w' : World) : Prop :=
  (p.more → e = .returned (.tuple #[.bool false, .int .i64 p.wrong]) ∧ Blk w' g 69 (hcells p) ∧ Only g w w') ∧
  (¬ p.more → e = .returned (.tuple #[.bool true, .int .i64 (if hshort p.major p.width p.arg then 0 else 5)]) ∧ Blk w' g 69 (hcells { p with opn := false }) ∧ Only g w w')
theorem HPost.out {g : Nat} {w : World} {q : HQ} {c : Int} {e : Ending} {w' : World} (h : HPost g w (hmid q c) e w') :
    e = .returned (.tuple #[.bool (hdone q c), .int .i64 (herr q c)]) ∧ Blk w' g 69 (hcells (hstep q c)) ∧ Only g w w' := by
  unfold hdone herr hstep
  by_cases hp : (hmid q c).more
  · rw [if_pos hp, if_pos hp]
    simpa [hp] using h.1 hp
  · rw [if_neg hp, if_neg hp]
    simpa [hp] using h.2 hp
set_option maxRecDepth 100000 in
set_option maxHeartbeats 4000000 in
theorem head_Step_follow (c : Int) (h0 : 0 ≤ c) (h1 : c < 256) (q : HQ) (hok : HOk q) (hw : q.wrong = 0) (ho : q.opn = true) (hl : 0 < q.left) (w : World) (g : Nat) (hg : Blk w g 69 (hcells q)) :
    Calls Try.prog 53 #[.pointer (some ⟨g, 0, none⟩), .int .u8 c] w fun e w' => HPost g w (hmid q c) e w' := by
      have hokm := hok_mid q c hok (fun _ _ => hl)
      have HF := Lib.hid (head_follow c h0 h1 q hok hl w g hg)
      have e1 : hmid q c = hfollow q c := by unfold hmid; rw [if_neg (by omega), if_pos ho]
      rw [← e1] at HF
      generalize hmid q c = p at *
      obtain ⟨m, W, a, l, o, e⟩ := q
      obtain ⟨c0, c1, c2, c3, c4, c5, _⟩ := hblk hg
      dsimp only at hw ho
      subst hw ho
      clear e1 hok hg hl
      go_enter Try.func53, Try.ntmps53
      go_wp2_with fail
      refine HF.out.mono ?_
      rintro e w2 ⟨rfl, b2, o2⟩
      clear c0 c1 c2 c3 c4 c5 HF
      obtain ⟨m, W, a, l, o, e⟩ := p
      obtain ⟨c0, c1, c2, c3, c4, c5, fz⟩ := hblk b2
      have f4 := fz 4
      have HB := Lib.hid b2
      have HO := Lib.hid o2
      obtain ⟨ha0, ha1, hl0, hl8⟩ := hokm
      dsimp only at ha0 ha1 hl0 hl8
      clear fz b2 o2
      by_cases hbad : e = 0
      · subst hbad
        by_cases hleft : 0 < l
        · go_wp2_with fail
          go_region
          go_wp2_with fail
          go_ret2
          exact ⟨fun _ => ⟨rfl, HB.out, HO.out.drew⟩, fun h => absurd (Or.inr hleft) h⟩
        · have HS := Lib.hid (head_shortest m W a ha0 ha1)
          have HN : Hid (¬ (HQ.mk m W a l o 0).more) := Lib.hid (fun h => by rcases h with h | h; exact h rfl; exact hleft h)
          have b3 := HB.out.put 4 (.bool false)
          have o3 := Lib.hid (HO.out.put 4 (.bool false))
          rw [hcells_open] at b3
          obtain ⟨w3, hw3⟩ : ∃ w3, w2.setCell ⟨g, 4, none⟩ (.bool false) = w3 := ⟨_, rfl⟩
          rw [hw3] at b3 o3
          have HL := Lib.hid (h3_load b3)
          have HB3 := Lib.hid b3
          clear b3 HB HO
          cases hb : hshort m W a with
          | true =>
            rw [hb] at HS
            go_wp2_with ((with_reducible refine is_load 40 rfl ?_); (with_reducible refine wpList_load_run rfl rfl HL.out ?_ ?_); (· rfl))
            refine (HS.out _).mono ?_
            rintro e w4 ⟨rfl, s4⟩
            go_wp2_with fail
            go_ret2
            refine ⟨fun h => absurd h HN.out, fun _ => ⟨by rw [hb]; rfl, HB3.out.on s4, o3.out.more s4⟩⟩
          | false =>
            rw [hb] at HS
            go_wp2_with ((with_reducible refine is_load 40 rfl ?_); (with_reducible refine wpList_load_run rfl rfl HL.out ?_ ?_); (· rfl))
            refine (HS.out _).mono ?_
            rintro e w4 ⟨rfl, s4⟩
            go_wp2_with fail
            go_ret2
            refine ⟨fun h => absurd h HN.out, fun _ => ⟨by rw [hb]; rfl, HB3.out.on s4, o3.out.more s4⟩⟩
      · have HN := Lib.hid hbad
        go_wp2_with fail
        go_region
        go_wp2_with fail
        go_ret2
        exact ⟨fun _ => ⟨rfl, HB.out, HO.out.drew⟩, fun h => absurd (Or.inl HN.out) h⟩
set_option maxRecDepth 100000 in
set_option maxHeartbeats 4000000 in
theorem head_Step_begin (c : Int) (h0 : 0 ≤ c) (h1 : c < 256) (q : HQ) (hok : HOk q) (hw : q.wrong = 0) (ho : q.opn = false) (w : World) (g : Nat) (hg : Blk w g 69 (hcells q)) :
    Calls Try.prog 53 #[.pointer (some ⟨g, 0, none⟩), .int .u8 c] w fun e w' => HPost g w (hmid q c) e w' := by
      have hokm := hok_mid q c hok (fun _ h => by rw [ho] at h; cases h)
      have HF := Lib.hid (head_begin c h0 h1 q w g hg)
      have e1 : hmid q c = hbegin c := by unfold hmid; rw [if_neg (by omega), if_neg (by rw [ho]; decide)]
      rw [← e1] at HF
      generalize hmid q c = p at *
      obtain ⟨m, W, a, l, o, e⟩ := q
      obtain ⟨c0, c1, c2, c3, c4, c5, _⟩ := hblk hg
      dsimp only at hw ho
      subst hw ho
      clear e1 hok hg 
      go_enter Try.func53, Try.ntmps53
      go_wp2_with fail
      refine HF.out.mono ?_
      rintro e w2 ⟨rfl, b2, o2⟩
      clear c0 c1 c2 c3 c4 c5 HF
      obtain ⟨m, W, a, l, o, e⟩ := p
      obtain ⟨c0, c1, c2, c3, c4, c5, fz⟩ := hblk b2
      have f4 := fz 4
      have HB := Lib.hid b2
      have HO := Lib.hid o2
      obtain ⟨ha0, ha1, hl0, hl8⟩ := hokm
      dsimp only at ha0 ha1 hl0 hl8
      clear fz b2 o2
      by_cases hbad : e = 0
      · subst hbad
        by_cases hleft : 0 < l
        · go_wp2_with fail
          go_region
          go_wp2_with fail
          go_ret2
          exact ⟨fun _ => ⟨rfl, HB.out, HO.out.drew⟩, fun h => absurd (Or.inr hleft) h⟩
        · have HS := Lib.hid (head_shortest m W a ha0 ha1)
          have HN : Hid (¬ (HQ.mk m W a l o 0).more) := Lib.hid (fun h => by rcases h with h | h; exact h rfl; exact hleft h)
          have b3 := HB.out.put 4 (.bool false)
          have o3 := Lib.hid (HO.out.put 4 (.bool false))
          rw [hcells_open] at b3
          obtain ⟨w3, hw3⟩ : ∃ w3, w2.setCell ⟨g, 4, none⟩ (.bool false) = w3 := ⟨_, rfl⟩
          rw [hw3] at b3 o3
          have HL := Lib.hid (h3_load b3)
          have HB3 := Lib.hid b3
          clear b3 HB HO
          cases hb : hshort m W a with
          | true =>
            rw [hb] at HS
            go_wp2_with ((with_reducible refine is_load 40 rfl ?_); (with_reducible refine wpList_load_run rfl rfl HL.out ?_ ?_); (· rfl))
            refine (HS.out _).mono ?_
            rintro e w4 ⟨rfl, s4⟩
            go_wp2_with fail
            go_ret2
            refine ⟨fun h => absurd h HN.out, fun _ => ⟨by rw [hb]; rfl, HB3.out.on s4, o3.out.more s4⟩⟩
          | false =>
            rw [hb] at HS
            go_wp2_with ((with_reducible refine is_load 40 rfl ?_); (with_reducible refine wpList_load_run rfl rfl HL.out ?_ ?_); (· rfl))
            refine (HS.out _).mono ?_
            rintro e w4 ⟨rfl, s4⟩
            go_wp2_with fail
            go_ret2
            refine ⟨fun h => absurd h HN.out, fun _ => ⟨by rw [hb]; rfl, HB3.out.on s4, o3.out.more s4⟩⟩
      · have HN := Lib.hid hbad
        go_wp2_with fail
        go_region
        go_wp2_with fail
        go_ret2
        exact ⟨fun _ => ⟨rfl, HB.out, HO.out.drew⟩, fun h => absurd (Or.inl HN.out) h⟩
set_option maxHeartbeats 4000000 in
theorem head_Step_wrong (c : Int) (q : HQ) (hw : q.wrong ≠ 0) (w : World) (g : Nat) (hg : Blk w g 69 (hcells q)) :
    Calls Try.prog 53 #[.pointer (some ⟨g, 0, none⟩), .int .u8 c] w fun e w' => HPost g w (hmid q c) e w' := by
  have e1 : hmid q c = q := by unfold hmid; rw [if_pos hw]
  rw [e1]
  obtain ⟨m, W, a, l, o, e⟩ := q
  obtain ⟨c0, c1, c2, c3, c4, c5, _⟩ := hblk hg
  dsimp only at hw
  have HN := Lib.hid hw
  have HB := Lib.hid hg
  clear e1 hg
  go_enter Try.func53, Try.ntmps53
  go_wp2_with fail
  go_region
  go_wp2_with fail
  go_ret2
  exact ⟨fun _ => ⟨rfl, HB.out, (Only.refl _ _).drew⟩, fun h => absurd (Or.inl HN.out) h⟩
theorem head_Step' (c : Int) (h0 : 0 ≤ c) (h1 : c < 256) (q : HQ) (hok : HOk q) (hl : q.wrong = 0 → q.opn = true → 0 < q.left) (w : World) (g : Nat) (hg : Blk w g 69 (hcells q)) :
    Calls Try.prog 53 #[.pointer (some ⟨g, 0, none⟩), .int .u8 c] w fun e w' => HPost g w (hmid q c) e w' := by
  by_cases hw : q.wrong = 0
  · cases ho : q.opn with
    | true => exact head_Step_follow c h0 h1 q hok hw ho (hl hw ho) w g hg
    | false => exact head_Step_begin c h0 h1 q hok hw ho w g hg
  · exact head_Step_wrong c q hw w g hg
theorem head_Step (c : Int) (h0 : 0 ≤ c) (h1 : c < 256) (q : HQ) (hok : HOk q) (hl : q.wrong = 0 → q.opn = true → 0 < q.left) (w : World) (g : Nat) (hg : Blk w g 69 (hcells q)) :
    Calls Try.prog 53 #[.pointer (some ⟨g, 0, none⟩), .int .u8 c] w fun e w' => e = .returned (.tuple #[.bool (hdone q c), .int .i64 (herr q c)]) ∧ Blk w' g 69 (hcells (hstep q c)) ∧ Only g w w' :=
  (head_Step' c h0 h1 q hok hl w g hg).mono fun _ _ h => h.out
end Go.Proofs.Ytchhbcmkhbfpoaa

/- Package head: Head, Open, Reset, First. -/
namespace Go.Proofs.Ytchhbcmkhbfpoaa
open Go.RowKit

theorem h3_zero : ∀ w, (zeroValue 40).run Try.prog w = .ok (.agg (h3cells 0 0 0)) w := (zero_of_info (n := 3) (by kernel_rfl)).1
theorem hq_zero : ∀ w, (zeroValue 69).run Try.prog w = .ok (.agg (hcells hq0)) w := (zero_of_info (n := 6) (by kernel_rfl)).1
theorem h3_one (m W a : Int) : (h3cells m W a).all (·.oneCell') = true := by
  rw [Array.all_eq_true_iff_forall_mem]
  intro x hx
  simp [h3cells] at hx
  rcases hx with rfl | rfl | rfl <;> rfl
theorem head_Head_nil (w : World) :
    Calls Try.prog 49 #[.pointer none] w fun e w' => e = .returned (.agg (h3cells 0 0 0)) ∧ Below w.heap.size w w' := by
  have HZ := h3_zero
  have b1 : Blk (w.alloc (.cells (h3cells 0 0 0) 40)) w.heap.size 40 (h3cells 0 0 0) := Blk.fresh _ _ _
  have s1 : Below w.heap.size w (w.alloc (.cells (h3cells 0 0 0) 40)) := below_alloc _ _
  have HS := Lib.hid (run_store_all (P := Try.prog) (ty := 40) (c' := h3cells 0 0 0) b1 (by kernel_rfl) rfl (h3_one _ _ _))
  have b2 := Lib.hid (b1.setRow (h3cells 0 0 0))
  have s2 := Lib.hid (below_row s1 (Nat.le_refl _) (h3cells 0 0 0))
  clear b1 s1
  go_enter Try.func49, Try.ntmps49
  go_wp2_with ((with_reducible refine is_store 40 rfl ?_); (with_reducible refine wpList_store_run rfl rfl HS.out ?_ ?_ ?_); (· rfl); (· rfl))
  exact bodyPost_ret (results_blk rfl _ rfl b2.out Try.underlying40 rfl hinfo_head) rfl ⟨rfl, s2.out⟩
theorem head_Step_nil (c : Int) (w : World) :
    Calls Try.prog 53 #[.pointer none, .int .u8 c] w fun e w' => e = .returned (.tuple #[.bool false, .int .i64 10]) ∧ w = w' := by
  go_enter Try.func53, Try.ntmps53
  go_wp2
  go_ret2
  exact ⟨rfl, rfl⟩
/-- A whole head that ended. -/
theorem head_Head_done (q : HQ) (ho : q.opn = false) (w : World) (g : Nat) (hg : Blk w g 69 (hcells q)) :
    Calls Try.prog 49 #[.pointer (some ⟨g, 0, none⟩)] w fun e w' => e = .returned (.agg (h3cells q.major q.width q.arg)) ∧ Below w.heap.size w w' := by
  have HZ := h3_zero
  have b1 : Blk (w.alloc (.cells (h3cells 0 0 0) 40)) w.heap.size 40 (h3cells 0 0 0) := Blk.fresh _ _ _
  have s1 : Below w.heap.size w (w.alloc (.cells (h3cells 0 0 0) 40)) := below_alloc _ _
  have hg1 := hg.on s1
  obtain ⟨w1, hw1⟩ : ∃ w1, w.alloc (.cells (h3cells 0 0 0) 40) = w1 := ⟨_, rfl⟩
  rw [hw1] at b1 s1 hg1
  have HL := Lib.hid (h3_load hg1)
  have HS := Lib.hid (run_store_all (P := Try.prog) (ty := 40) (c' := h3cells q.major q.width q.arg) b1 (by kernel_rfl) rfl (h3_one _ _ _))
  have b2 := Lib.hid (b1.setRow (h3cells q.major q.width q.arg))
  have s2 := Lib.hid (below_row s1 (Nat.le_refl _) (h3cells q.major q.width q.arg))
  obtain ⟨m, W, a, l, o, e⟩ := q
  obtain ⟨c0, c1, c2, c3, c4, c5, _⟩ := hblk hg1
  dsimp only at ho HL HS b2 s2 ⊢
  subst ho
  clear b1 s1 hg hg1
  go_enter Try.func49, Try.ntmps49
  go_wp2_with (first | ((with_reducible refine is_load 40 rfl ?_); (with_reducible refine wpList_load_run rfl rfl HL.out ?_ ?_); (· rfl)) | ((with_reducible refine is_store 40 rfl ?_); (with_reducible refine wpList_store_run rfl rfl HS.out ?_ ?_ ?_); (· rfl); (· rfl)))
  exact bodyPost_ret (results_blk rfl _ rfl b2.out Try.underlying40 rfl hinfo_head) rfl ⟨rfl, s2.out⟩
end Go.Proofs.Ytchhbcmkhbfpoaa

/- A struct that lies in another one: cells in the middle of a block that is known whole. -/
namespace Go.Proofs.Ytchhbcmkhbfpoaa
open Go.RowKit

/-- Block g is just the cells a, c, b; c begins at o. -/
def Fd (w : World) (g o : Nat) (t : TypeId) (a c b : Array Value) : Prop := Blk w g t (a ++ c ++ b) ∧ a.size = o
section
variable {w w' : World} {g o : Nat} {t : TypeId} {a c b : Array Value}
theorem fd_get (ha : a.size = o) {i : Nat} (hi : i < c.size) : (a ++ c ++ b)[o + i]? = c[i]? := by
  subst ha
  rw [Array.append_assoc, Array.getElem?_append_right (by omega), Nat.add_sub_cancel_left, Array.getElem?_append_left hi]
theorem fd_set (ha : a.size = o) {i : Nat} (hi : i < c.size) (u : Value) : (a ++ c ++ b).setIfInBounds (o + i) u = a ++ c.setIfInBounds i u ++ b := by
  subst ha
  rw [Array.append_assoc, Array.append_assoc, Array.setIfInBounds_append_right (by omega), Nat.add_sub_cancel_left, Array.setIfInBounds_append_left hi]
theorem Fd.lt (h : Fd w g o t a c b) : g < w.heap.size := h.1.lt
theorem Fd.cell (h : Fd w g o t a c b) (i : Nat) (hi : i < c.size := by first | (simp [hcells]; done) | (simp [ucells]; done) | (simp; done)) : w.cell? ⟨g, o + i, none⟩ = c[i]? := by
  rw [h.1.cell, fd_get h.2 hi]
theorem Fd.free (h : Fd w g o t a c b) (i : Nat) : w.frozen? ⟨g, i, none⟩ = false := h.1.free i
theorem Fd.put (h : Fd w g o t a c b) (i : Nat) (u : Value) (hi : i < c.size := by first | (simp [hcells]; done) | (simp [ucells]; done) | (simp; done)) : Fd (w.setCell ⟨g, o + i, none⟩ u) g o t a (c.setIfInBounds i u) b := by
  refine ⟨?_, h.2⟩
  rw [← fd_set h.2 hi]
  exact h.1.put (o + i) u
theorem Fd.below {B : Nat} (h : Fd w g o t a c b) (hb : Below B w w') (hg : g < B) : Fd w' g o t a c b := ⟨h.1.below hb hg, h.2⟩
theorem Fd.on (h : Fd w g o t a c b) (hb : Below w.heap.size w w') : Fd w' g o t a c b := ⟨h.1.on hb, h.2⟩
theorem Fd.row (h : Fd w g o t a c b) (c' : Array Value) : Fd (w.setRow g (a ++ c' ++ b)) g o t a c' b := ⟨h.1.setRow _, h.2⟩
theorem Fd.whole (h : Blk w g t c) : Fd w g 0 t #[] c #[] := ⟨by simpa using h, rfl⟩
end
end Go.Proofs.Ytchhbcmkhbfpoaa
