/- Package head: a step, Head, First's parts. -/
import Derived.Test.YtchhbcmkhbfpoaaKAU
import Derived.Test.YtchhbcmkhbfpoaaKAO
import Derived.StillTailTactics
import Derived.Deep.WholeRow
import Derived.Test.YtchhbcmkhbfpoaaKAH
import Derived.Test.YtchhbcmkhbfpoaaKAR
import Derived.Test.YtchhbcmkhbfpoaaRows
import Derived.Test.YtchhbcmkhbfpoaaKAA
import Derived.Laws.BytesArg
import Derived.Test.YtchhbcmkhbfpoaaKAI
import Derived.Test.YtchhbcmkhbfpoaaKAS
import Derived.Test.YtchhbcmkhbfpoaaKAE
import Derived.Test.YtchhbcmkhbfpoaaKAG
import Derived.RegionTactic
namespace Go.Proofs.Ytchhbcmkhbfpoaa
open Go.RowKit

def h3cells (m W a : Int) : Array Value := #[.int .i64 m, .int .i64 W, .int .u64 a]
set_option maxHeartbeats 1000000 in
theorem head_shortest (m W a : Int) (h0 : 0 ≤ a) (h1 : a < 18446744073709551616) (w : World) :
    Calls Try.prog 68 #[.agg (h3cells m W a)] w fun e w' => e = .returned (.bool (hshort m W a)) ∧ Below w.heap.size w w' := by
  have HL := Lib.hid (fun w => (head_least a h0 h1 w).mono (fun _ _ h => (⟨h.1, h.2.symm⟩ : _ ∧ _)))
  have HF : Hid (∀ w, Calls Try.prog 80 #[.int .u64 a, .int .i64 W] w fun e w' => e = .returned (.bool (fshort W a)) ∧ Below w.heap.size w w') := by
    intro w
    have := float_Short a.toNat (by omega) W w
    rw [Int.toNat_of_nonneg h0] at this
    exact this.mono fun e w' h => ⟨h.1.eq, h.2⟩
  have b0 : Blk (w.alloc (.cells (h3cells m W a) 40)) w.heap.size 40 (h3cells m W a) := Blk.fresh _ _ _
  have S : Below w.heap.size w (w.alloc (.cells (h3cells m W a) 40)) := below_alloc _ _
  unfold h3cells at b0 S ⊢
  obtain ⟨w1, hw1⟩ : ∃ w1, w.alloc (.cells #[.int .i64 m, .int .i64 W, .int .u64 a] 40) = w1 := ⟨_, rfl⟩
  rw [hw1] at b0 S
  have c0 : w1.cell? ⟨w.heap.size, 0, none⟩ = some (.int .i64 m) := b0.cell 0
  have c1 : w1.cell? ⟨w.heap.size, 1, none⟩ = some (.int .i64 W) := b0.cell 1
  have c2 : w1.cell? ⟨w.heap.size, 2, none⟩ = some (.int .u64 a) := b0.cell 2
  have HS := Lib.hid S
  clear b0 S
  by_cases hm : m = 7 ∧ 1 < W
  · have e1 : hshort m W a = fshort W a := by unfold hshort; rw [if_pos hm]
    rw [e1]
    clear e1
    obtain ⟨rfl, hW⟩ := hm
    generalize fshort W a = b at *
    go_enter Try.func68, Try.ntmps68
    go_wp2_with fail
    refine (HF.out _).mono ?_
    rintro e w2 ⟨rfl, S2⟩
    go_wp2_with fail
    go_ret
    exact ⟨rfl, HS.out.trans (S2.mono HS.out.size)⟩
  · have e1 : hshort m W a = (W == leastW a) := by unfold hshort; rw [if_neg hm]
    rw [e1]
    clear e1
    by_cases h7 : m = 7
    · subst h7
      have hW : ¬ 1 < W := fun h => hm ⟨rfl, h⟩
      clear hm HF
      go_enter Try.func68, Try.ntmps68
      go_wp2_with fail
      go_quiet (with_reducible exact Calls.quiet_of_same (HL.out _))
      have HS2 := Lib.hid (below_drawnN HS.out nq)
      generalize w1.drewN nq = w2 at *
      go_wp2_with fail
      go_ret
      exact ⟨rfl, HS2.out⟩
    · clear hm HF
      go_enter Try.func68, Try.ntmps68
      go_wp2_with fail
      go_quiet (with_reducible exact Calls.quiet_of_same (HL.out _))
      have HS2 := Lib.hid (below_drawnN HS.out nq)
      generalize w1.drewN nq = w2 at *
      go_wp2_with fail
      go_ret
      exact ⟨rfl, HS2.out⟩

theorem hinfo_head : (Try.prog.info? 40).map (·.size) = some 3 := by kernel_rfl
theorem h3_load {w : World} {g : Nat} {q : HQ} (h : Blk w g 69 (hcells q)) :
    (Instr.loadAt 40 (.pointer (some ⟨g, 0, none⟩))).run Try.prog w = .ok (.agg (h3cells q.major q.width q.arg)) w :=
  run_load_blk (a := #[]) (b := #[.int .i64 q.left, .bool q.opn, .int .i64 q.wrong]) (o := 0) h rfl rfl Try.underlying40 rfl (by kernel_rfl)
theorem hcells_open (q : HQ) (b : Bool) : (hcells q).setIfInBounds 4 (.bool b) = hcells { q with opn := b } := rfl
theorem hok_zero : HOk hq0 := by unfold HOk hq0; simp
theorem hok_mid (q : HQ) (c : Int) (hok : HOk q) (hl : q.wrong = 0 → q.opn = true → 0 < q.left) : HOk (hmid q c) := by
  unfold hmid
  split
  · exact hok
  rename_i hw
  have hw : q.wrong = 0 := by omega
  split
  · rename_i ho
    have := hl hw ho
    obtain ⟨a, b, c, d⟩ := hok
    refine ⟨Int.emod_nonneg _ (by decide), Int.emod_lt_of_pos _ (by decide), ?_, ?_⟩
    · show 0 ≤ q.left - 1; omega
    · show q.left - 1 ≤ 8; omega
  · unfold hbegin hbeg HOk hwid
    (repeat' split) <;> simp <;> omega
/-- What a step answers, by the state in its middle. -/
def HPost (g : Nat) (w : World) (p : HQ) (e : Ending) (w' : World) : Prop :=
  (p.more → e = .returned (.tuple #[.bool false, .int .i64 p.wrong]) ∧ Blk w' g 69 (hcells p) ∧ Only g w w') ∧
  (¬ p.more → e = .returned (.tuple #[.bool true, .int .i64 (if hshort p.major p.width p.arg then 0 else 5)]) ∧ Blk w' g 69 (hcells { p with opn := false }) ∧ Only g w w')
theorem HPost.out {g : Nat} {w : World} {q : HQ} {c : Int} {e : Ending} {w' : World} (h : HPost g w (hmid q c) e w') :
    e = .returned (.tuple #[.bool (hdone q c), .int .i64 (herr q c)]) ∧ Blk w' g 69 (hcells (hstep q c)) ∧ Only g w w' := by
  unfold hdone herr hstep
  by_cases hp : (hmid q c).more
  · rw [if_pos hp, if_pos hp]
    simpa [hp] using h.1 hp
  · rw [if_neg hp, if_neg hp]
    simpa [hp] using h.2 hp
set_option maxRecDepth 100000 in
set_option maxHeartbeats 4000000 in
theorem head_Step_follow (c : Int) (h0 : 0 ≤ c) (h1 : c < 256) (q : HQ) (hok : HOk q) (hw : q.wrong = 0) (ho : q.opn = true) (hl : 0 < q.left) (w : World) (g : Nat) (hg : Blk w g 69 (hcells q)) :
    Calls Try.prog 53 #[.pointer (some ⟨g, 0, none⟩), .int .u8 c] w fun e w' => HPost g w (hmid q c) e w' := by
      have hokm := hok_mid q c hok (fun _ _ => hl)
      have HF := Lib.hid (head_follow c h0 h1 q hok hl w g hg)
      have e1 : hmid q c = hfollow q c := by unfold hmid; rw [if_neg (by omega), if_pos ho]
      rw [← e1] at HF
      generalize hmid q c = p at *
      obtain ⟨m, W, a, l, o, e⟩ := q
      obtain ⟨c0, c1, c2, c3, c4, c5, _⟩ := hblk hg
      dsimp only at hw ho
      subst hw ho
      clear e1 hok hg hl
      go_enter Try.func53, Try.ntmps53
      go_wp2_with fail
      refine HF.out.mono ?_
      rintro e w2 ⟨rfl, b2, o2⟩
      clear c0 c1 c2 c3 c4 c5 HF
      obtain ⟨m, W, a, l, o, e⟩ := p
      obtain ⟨c0, c1, c2, c3, c4, c5, fz⟩ := hblk b2
      have f4 := fz 4
      have HB := Lib.hid b2
      have HO := Lib.hid o2
      obtain ⟨ha0, ha1, hl0, hl8⟩ := hokm
      dsimp only at ha0 ha1 hl0 hl8
      clear fz b2 o2
      by_cases hbad : e = 0
      · subst hbad
        by_cases hleft : 0 < l
        · go_wp2_with fail
          go_region
          go_wp2_with fail
          go_ret2
          exact ⟨fun _ => ⟨rfl, HB.out, HO.out.drew⟩, fun h => absurd (Or.inr hleft) h⟩
        · have HS := Lib.hid (head_shortest m W a ha0 ha1)
          have HN : Hid (¬ (HQ.mk m W a l o 0).more) := Lib.hid (fun h => by rcases h with h | h; exact h rfl; exact hleft h)
          have b3 := HB.out.put 4 (.bool false)
          have o3 := Lib.hid (HO.out.put 4 (.bool false))
          rw [hcells_open] at b3
          obtain ⟨w3, hw3⟩ : ∃ w3, w2.setCell ⟨g, 4, none⟩ (.bool false) = w3 := ⟨_, rfl⟩
          rw [hw3] at b3 o3
          have HL := Lib.hid (h3_load b3)
          have HB3 := Lib.hid b3
          clear b3 HB HO
          cases hb : hshort m W a with
          | true =>
            rw [hb] at HS
            go_wp2_with ((with_reducible refine is_load 40 rfl ?_); (with_reducible refine wpList_load_run rfl rfl HL.out ?_ ?_); (· rfl))
            refine (HS.out _).mono ?_
            rintro e w4 ⟨rfl, s4⟩
            go_wp2_with fail
            go_ret2
            refine ⟨fun h => absurd h HN.out, fun _ => ⟨by rw [hb]; rfl, HB3.out.on s4, o3.out.more s4⟩⟩
          | false =>
            rw [hb] at HS
            go_wp2_with ((with_reducible refine is_load 40 rfl ?_); (with_reducible refine wpList_load_run rfl rfl HL.out ?_ ?_); (· rfl))
            refine (HS.out _).mono ?_
            rintro e w4 ⟨rfl, s4⟩
            go_wp2_with fail
            go_ret2
            refine ⟨fun h => absurd h HN.out, fun _ => ⟨by rw [hb]; rfl, HB3.out.on s4, o3.out.more s4⟩⟩
      · have HN := Lib.hid hbad
        go_wp2_with fail
        go_region
        go_wp2_with fail
        go_ret2
        exact ⟨fun _ => ⟨rfl, HB.out, HO.out.drew⟩, fun h => absurd (Or.inl HN.out) h⟩
set_option maxRecDepth 100000 in
set_option maxHeartbeats 4000000 in
theorem head_Step_begin (c : Int) (h0 : 0 ≤ c) (h1 : c < 256) (q : HQ) (hok : HOk q) (hw : q.wrong = 0) (ho : q.opn = false) (w : World) (g : Nat) (hg : Blk w g 69 (hcells q)) :
    Calls Try.prog 53 #[.pointer (some ⟨g, 0, none⟩), .int .u8 c] w fun e w' => HPost g w (hmid q c) e w' := by
      have hokm := hok_mid q c hok (fun _ h => by rw [ho] at h; cases h)
      have HF := Lib.hid (head_begin c h0 h1 q w g hg)
      have e1 : hmid q c = hbegin c := by unfold hmid; rw [if_neg (by omega), if_neg (by rw [ho]; decide)]
      rw [← e1] at HF
      generalize hmid q c = p at *
      obtain ⟨m, W, a, l, o, e⟩ := q
      obtain ⟨c0, c1, c2, c3, c4, c5, _⟩ := hblk hg
      dsimp only at hw ho
      subst hw ho
      clear e1 hok hg 
      go_enter Try.func53, Try.ntmps53
      go_wp2_with fail
      refine HF.out.mono ?_
      rintro e w2 ⟨rfl, b2, o2⟩
      clear c0 c1 c2 c3 c4 c5 HF
      obtain ⟨m, W, a, l, o, e⟩ := p
      obtain ⟨c0, c1, c2, c3, c4, c5, fz⟩ := hblk b2
      have f4 := fz 4
      have HB := Lib.hid b2
      have HO := Lib.hid o2
      obtain ⟨ha0, ha1, hl0, hl8⟩ := hokm
      dsimp only at ha0 ha1 hl0 hl8
      clear fz b2 o2
      by_cases hbad : e = 0
      · subst hbad
        by_cases hleft : 0 < l
        · go_wp2_with fail
          go_region
          go_wp2_with fail
          go_ret2
          exact ⟨fun _ => ⟨rfl, HB.out, HO.out.drew⟩, fun h => absurd (Or.inr hleft) h⟩
        · have HS := Lib.hid (head_shortest m W a ha0 ha1)
          have HN : Hid (¬ (HQ.mk m W a l o 0).more) := Lib.hid (fun h => by rcases h with h | h; exact h rfl; exact hleft h)
          have b3 := HB.out.put 4 (.bool false)
          have o3 := Lib.hid (HO.out.put 4 (.bool false))
          rw [hcells_open] at b3
          obtain ⟨w3, hw3⟩ : ∃ w3, w2.setCell ⟨g, 4, none⟩ (.bool false) = w3 := ⟨_, rfl⟩
          rw [hw3] at b3 o3
          have HL := Lib.hid (h3_load b3)
          have HB3 := Lib.hid b3
          clear b3 HB HO
          cases hb : hshort m W a with
          | true =>
            rw [hb] at HS
            go_wp2_with ((with_reducible refine is_load 40 rfl ?_); (with_reducible refine wpList_load_run rfl rfl HL.out ?_ ?_); (· rfl))
            refine (HS.out _).mono ?_
            rintro e w4 ⟨rfl, s4⟩
            go_wp2_with fail
            go_ret2
            refine ⟨fun h => absurd h HN.out, fun _ => ⟨by rw [hb]; rfl, HB3.out.on s4, o3.out.more s4⟩⟩
          | false =>
            rw [hb] at HS
            go_wp2_with ((with_reducible refine is_load 40 rfl ?_); (with_reducible refine wpList_load_run rfl rfl HL.out ?_ ?_); (· rfl))
            refine (HS.out _).mono ?_
            rintro e w4 ⟨rfl, s4⟩
            go_wp2_with fail
            go_ret2
            refine ⟨fun h => absurd h HN.out, fun _ => ⟨by rw [hb]; rfl, HB3.out.on s4, o3.out.more s4⟩⟩
      · have HN := Lib.hid hbad
        go_wp2_with fail
        go_region
        go_wp2_with fail
        go_ret2
        exact ⟨fun _ => ⟨rfl, HB.out, HO.out.drew⟩, fun h => absurd (Or.inl HN.out) h⟩
set_option maxHeartbeats 4000000 in
theorem head_Step_wrong (c : Int) (q : HQ) (hw : q.wrong ≠ 0) (w : World) (g : Nat) (hg : Blk w g 69 (hcells q)) :
    Calls Try.prog 53 #[.pointer (some ⟨g, 0, none⟩), .int .u8 c] w fun e w' => HPost g w (hmid q c) e w' := by
  have e1 : hmid q c = q := by unfold hmid; rw [if_pos hw]
  rw [e1]
  obtain ⟨m, W, a, l, o, e⟩ := q
  obtain ⟨c0, c1, c2, c3, c4, c5, _⟩ := hblk hg
  dsimp only at hw
  have HN := Lib.hid hw
  have HB := Lib.hid hg
  clear e1 hg
  go_enter Try.func53, Try.ntmps53
  go_wp2_with fail
  go_region
  go_wp2_with fail
  go_ret2
  exact ⟨fun _ => ⟨rfl, HB.out, (Only.refl _ _).drew⟩, fun h => absurd (Or.inl HN.out) h⟩
theorem head_Step' (c : Int) (h0 : 0 ≤ c) (h1 : c < 256) (q : HQ) (hok : HOk q) (hl : q.wrong = 0 → q.opn = true → 0 < q.left) (w : World) (g : Nat) (hg : Blk w g 69 (hcells q)) :
    Calls Try.prog 53 #[.pointer (some ⟨g, 0, none⟩), .int .u8 c] w fun e w' => HPost g w (hmid q c) e w' := by
  by_cases hw : q.wrong = 0
  · cases ho : q.opn with
    | true => exact head_Step_follow c h0 h1 q hok hw ho (hl hw ho) w g hg
    | false => exact head_Step_begin c h0 h1 q hok hw ho w g hg
  · exact head_Step_wrong c q hw w g hg
theorem head_Step (c : Int) (h0 : 0 ≤ c) (h1 : c < 256) (q : HQ) (hok : HOk q) (hl : q.wrong = 0 → q.opn = true → 0 < q.left) (w : World) (g : Nat) (hg : Blk w g 69 (hcells q)) :
    Calls Try.prog 53 #[.pointer (some ⟨g, 0, none⟩), .int .u8 c] w fun e w' => e = .returned (.tuple #[.bool (hdone q c), .int .i64 (herr q c)]) ∧ Blk w' g 69 (hcells (hstep q c)) ∧ Only g w w' :=
  (head_Step' c h0 h1 q hok hl w g hg).mono fun _ _ h => h.out
end Go.Proofs.Ytchhbcmkhbfpoaa

/- Package head: Head, Open, Reset, First. -/
namespace Go.Proofs.Ytchhbcmkhbfpoaa
open Go.RowKit

theorem h3_zero : ∀ w, (zeroValue 40).run Try.prog w = .ok (.agg (h3cells 0 0 0)) w := (zero_of_info (n := 3) (by kernel_rfl)).1
theorem hq_zero : ∀ w, (zeroValue 69).run Try.prog w = .ok (.agg (hcells hq0)) w := (zero_of_info (n := 6) (by kernel_rfl)).1
theorem h3_one (m W a : Int) : (h3cells m W a).all (·.oneCell') = true := by
  rw [Array.all_eq_true_iff_forall_mem]
  intro x hx
  simp [h3cells] at hx
  rcases hx with rfl | rfl | rfl <;> rfl
theorem head_Head_nil (w : World) :
    Calls Try.prog 49 #[.pointer none] w fun e w' => e = .returned (.agg (h3cells 0 0 0)) ∧ Below w.heap.size w w' := by
  have HZ := h3_zero
  have b1 : Blk (w.alloc (.cells (h3cells 0 0 0) 40)) w.heap.size 40 (h3cells 0 0 0) := Blk.fresh _ _ _
  have s1 : Below w.heap.size w (w.alloc (.cells (h3cells 0 0 0) 40)) := below_alloc _ _
  have HS := Lib.hid (run_store_all (P := Try.prog) (ty := 40) (c' := h3cells 0 0 0) b1 (by kernel_rfl) rfl (h3_one _ _ _))
  have b2 := Lib.hid (b1.setRow (h3cells 0 0 0))
  have s2 := Lib.hid (below_row s1 (Nat.le_refl _) (h3cells 0 0 0))
  clear b1 s1
  go_enter Try.func49, Try.ntmps49
  go_wp2_with ((with_reducible refine is_store 40 rfl ?_); (with_reducible refine wpList_store_run rfl rfl HS.out ?_ ?_ ?_); (· rfl); (· rfl))
  exact bodyPost_ret (results_blk rfl _ rfl b2.out Try.underlying40 rfl hinfo_head) rfl ⟨rfl, s2.out⟩
theorem head_Step_nil (c : Int) (w : World) :
    Calls Try.prog 53 #[.pointer none, .int .u8 c] w fun e w' => e = .returned (.tuple #[.bool false, .int .i64 10]) ∧ w = w' := by
  go_enter Try.func53, Try.ntmps53
  go_wp2
  go_ret2
  exact ⟨rfl, rfl⟩
/-- A whole head that ended. -/
theorem head_Head_done (q : HQ) (ho : q.opn = false) (w : World) (g : Nat) (hg : Blk w g 69 (hcells q)) :
    Calls Try.prog 49 #[.pointer (some ⟨g, 0, none⟩)] w fun e w' => e = .returned (.agg (h3cells q.major q.width q.arg)) ∧ Below w.heap.size w w' := by
  have HZ := h3_zero
  have b1 : Blk (w.alloc (.cells (h3cells 0 0 0) 40)) w.heap.size 40 (h3cells 0 0 0) := Blk.fresh _ _ _
  have s1 : Below w.heap.size w (w.alloc (.cells (h3cells 0 0 0) 40)) := below_alloc _ _
  have hg1 := hg.on s1
  obtain ⟨w1, hw1⟩ : ∃ w1, w.alloc (.cells (h3cells 0 0 0) 40) = w1 := ⟨_, rfl⟩
  rw [hw1] at b1 s1 hg1
  have HL := Lib.hid (h3_load hg1)
  have HS := Lib.hid (run_store_all (P := Try.prog) (ty := 40) (c' := h3cells q.major q.width q.arg) b1 (by kernel_rfl) rfl (h3_one _ _ _))
  have b2 := Lib.hid (b1.setRow (h3cells q.major q.width q.arg))
  have s2 := Lib.hid (below_row s1 (Nat.le_refl _) (h3cells q.major q.width q.arg))
  obtain ⟨m, W, a, l, o, e⟩ := q
  obtain ⟨c0, c1, c2, c3, c4, c5, _⟩ := hblk hg1
  dsimp only at ho HL HS b2 s2 ⊢
  subst ho
  clear b1 s1 hg hg1
  go_enter Try.func49, Try.ntmps49
  go_wp2_with (first | ((with_reducible refine is_load 40 rfl ?_); (with_reducible refine wpList_load_run rfl rfl HL.out ?_ ?_); (· rfl)) | ((with_reducible refine is_store 40 rfl ?_); (with_reducible refine wpList_store_run rfl rfl HS.out ?_ ?_ ?_); (· rfl); (· rfl)))
  exact bodyPost_ret (results_blk rfl _ rfl b2.out Try.underlying40 rfl hinfo_head) rfl ⟨rfl, s2.out⟩
end Go.Proofs.Ytchhbcmkhbfpoaa

/- Package head: First. -/
namespace Go.Proofs.Ytchhbcmkhbfpoaa
open Go.RowKit

def hfirstV (r : HR) : Value := if r.e = 0 then .tuple #[.agg (h3cells r.major r.width r.arg), .int .i64 r.many, .int .i64 0] else .tuple #[.agg (h3cells 0 0 0), .int .i64 r.place, .int .i64 r.e]
set_option maxHeartbeats 1000000 in
set_option maxRecDepth 100000 in
theorem head_First (w : World) (A : Option Addr) (cap : Nat) (L : List Int) (hr : Rd w w.heap.size .u8 A L) (hb : ByteL L) (hl : L.length ≤ 1000000000) :
    Calls Try.prog 39 #[.slice A L.length cap] w fun e w' => e = .returned (hfirstV (hread L)) ∧ Below w.heap.size w w' := by
  have HZ := h3_zero
  have HQ0 := hq_zero
  have b1 : Blk (w.alloc (.cells (h3cells 0 0 0) 40)) w.heap.size 40 (h3cells 0 0 0) := Blk.fresh _ _ _
  have s1 : Below w.heap.size w (w.alloc (.cells (h3cells 0 0 0) 40)) := below_alloc _ _
  have z1 : (w.alloc (.cells (h3cells 0 0 0) 40)).heap.size = w.heap.size + 1 := by simp
  obtain ⟨w1, hw1⟩ : ∃ w1, w.alloc (.cells (h3cells 0 0 0) 40) = w1 := ⟨_, rfl⟩
  rw [hw1] at b1 s1 z1
  have b2 : Blk (w1.alloc (.cells (hcells hq0) 69)) (w.heap.size + 1) 69 (hcells hq0) := Blk.freshAt _ _ _ _ z1.symm
  have a2 := b1.alloc (.cells (hcells hq0) 69)
  have s2 := s1.alloc (by omega) (.cells (hcells hq0) 69)
  obtain ⟨w2, hw2⟩ : ∃ w2, w1.alloc (.cells (hcells hq0) 69) = w2 := ⟨_, rfl⟩
  rw [hw2] at b2 a2 s2
  have hr2 := hr.below s2
  have HB2 := Lib.hid b2
  have HA2 := Lib.hid a2
  have HS2 := Lib.hid s2
  clear b1 b2 a2 s1 s2 hr
  obtain ⟨C0, hC0⟩ : ∃ C, hcells hq0 = C := ⟨_, rfl⟩
  rw [hC0] at hw2 HQ0 HB2
  have HC0 := Lib.hid hC0
  clear hC0
  go_enter Try.func39, Try.ntmps39
  go_wp2_with fail
  clear hw1 hw2 HZ HQ0
  go_loopw [12] (fun i wr => ∃ (k : Nat) (q : HQ), k ≤ L.length ∧ i = .int .i64 k ∧ HSt L k q ∧ Blk wr (w.heap.size + 1) 69 (hcells q) ∧ Only (w.heap.size + 1) w2 wr) (fun i _ => L.length - (intOf i).toNat)
  case atStart => exact ⟨0, hq0, Nat.zero_le _, rfl, Or.inl ⟨rfl, rfl⟩, by rw [HC0.out]; exact HB2.out, Only.refl _ _⟩
  case round =>
    obtain ⟨k, q, hk, rfl, hst, hbk, ho⟩ := hrel
    have ha := HA2.out.only ho (by omega)
    have hs := HS2.out.trans (ho.below (by omega) HS2.out.size)
    have hrr := hr2.below (ho.below (by omega) HS2.out.size)
    by_cases hlt : k < L.length
    · obtain ⟨b, o, rfl, hbb, hc⟩ := hrr.get hlt
      have hc0 := (hb.get k).1
      have hc1 := (hb.get k).2
      have hN := hst.step hlt
      obtain ⟨hok, hleft⟩ := hst.ok
      have HT := Lib.hid (head_Step (L.getD k 0) hc0 hc1 q hok hleft wr _ hbk)
      generalize hdone q (L.getD k 0) = dn at *
      generalize herr q (L.getD k 0) = er at *
      generalize hstep q (L.getD k 0) = q' at *
      generalize L.getD k 0 = c at *
      have HA := Lib.hid ha
      have HSS := Lib.hid hs
      have HO := Lib.hid ho
      clear ha hs hrr hst hbk hok hleft ho
      cases hN with
      | bad _ _ he hR =>
        have he' : (er == 0) = false := by simp [he]
        have HR : Hid (hfirstV (hread L) = .tuple #[.agg (h3cells 0 0 0), .int .i64 k, .int .i64 er]) := Lib.hid (by rw [hR]; unfold hfirstV hnone; rw [if_neg he])
        go_wp2_with fail
        refine HT.out.mono ?_
        rintro e w3 ⟨rfl, b3, o3⟩
        have a3 := HA.out.only o3 (by omega)
        have HS := Lib.hid (run_store_all (P := Try.prog) (ty := 40) (c' := h3cells 0 0 0) a3 (by kernel_rfl) rfl (h3_one _ _ _))
        have b4 := Lib.hid (a3.setRow (h3cells 0 0 0))
        have s4 := Lib.hid (below_row (HSS.out.trans (o3.below (by omega) HSS.out.size)) (Nat.le_refl _) (h3cells 0 0 0))
        clear a3 b3 o3 HT hR hc
        go_wp2_with ((with_reducible refine is_store 40 rfl ?_); (with_reducible refine wpList_store_run rfl rfl HS.out ?_ ?_ ?_); (· rfl); (· rfl))
        (try simp only [Exit.inBlock, Exit.then])
        refine bodyPost_ret (results_blk3 rfl _ rfl b4.out Try.underlying40 rfl hinfo_head) rfl ⟨by rw [HR.out]; rfl, s4.out⟩
      | long _ hR he =>
        have HR : Hid (hfirstV (hread L) = .tuple #[.agg (h3cells 0 0 0), .int .i64 k, .int .i64 5]) := Lib.hid (by unfold hfirstV; rw [hR, he, if_neg (by decide)])
        go_wp2_with fail
        refine HT.out.mono ?_
        rintro e w3 ⟨rfl, b3, o3⟩
        have a3 := HA.out.only o3 (by omega)
        have HS := Lib.hid (run_store_all (P := Try.prog) (ty := 40) (c' := h3cells 0 0 0) a3 (by kernel_rfl) rfl (h3_one _ _ _))
        have b4 := Lib.hid (a3.setRow (h3cells 0 0 0))
        have s4 := Lib.hid (below_row (HSS.out.trans (o3.below (by omega) HSS.out.size)) (Nat.le_refl _) (h3cells 0 0 0))
        clear a3 b3 o3 HT hR hc
        go_wp2_with ((with_reducible refine is_store 40 rfl ?_); (with_reducible refine wpList_store_run rfl rfl HS.out ?_ ?_ ?_); (· rfl); (· rfl))
        (try simp only [Exit.inBlock, Exit.then])
        refine bodyPost_ret (results_blk3 rfl _ rfl b4.out Try.underlying40 rfl hinfo_head) rfl ⟨by rw [HR.out]; rfl, s4.out⟩
      | whole _ hR hop =>
        have HR : Hid (hfirstV (hread L) = .tuple #[.agg (h3cells q'.major q'.width q'.arg), .int .i64 ((k : Int) + 1), .int .i64 0]) := Lib.hid (by rw [hR]; rfl)
        go_wp2_with fail
        refine HT.out.mono ?_
        rintro e w3 ⟨rfl, b3, o3⟩
        have HH := Lib.hid (head_Head_done q' hop w3 _ b3)
        have a3 := HA.out.only o3 (by omega)
        have S3 := Lib.hid (HSS.out.trans (o3.below (by omega) HSS.out.size))
        have A3 := Lib.hid a3
        clear b3 o3 HT hR hc a3
        go_wp2_with fail
        refine HH.out.mono ?_
        rintro e w4 ⟨rfl, s4'⟩
        have a4 := A3.out.on s4'
        have HS := Lib.hid (run_store_all (P := Try.prog) (ty := 40) (c' := h3cells q'.major q'.width q'.arg) a4 (by kernel_rfl) rfl (h3_one _ _ _))
        have b4 := Lib.hid (a4.setRow (h3cells q'.major q'.width q'.arg))
        have s4 := Lib.hid (below_row (S3.out.trans (s4'.mono S3.out.size)) (Nat.le_refl _) (h3cells q'.major q'.width q'.arg))
        clear a4 s4' hop HH
        go_wp2_with ((with_reducible refine is_store 40 rfl ?_); (with_reducible refine wpList_store_run rfl rfl HS.out ?_ ?_ ?_); (· rfl); (· rfl))
        (try simp only [Exit.inBlock, Exit.then])
        refine bodyPost_ret (results_blk3 rfl _ rfl b4.out Try.underlying40 rfl hinfo_head) rfl ⟨by rw [HR.out]; rfl, s4.out⟩
      | more _ hst' =>
        go_wp2_with fail
        refine HT.out.mono ?_
        rintro e w3 ⟨rfl, b3, o3⟩
        have HB3 := Lib.hid b3
        have HO3 := Lib.hid (HO.out.trans o3)
        clear b3 o3 HT hc
        go_wp2_with fail
        go_roundw
        case rel => exact ⟨k + 1, q', by omega, by go_num, hst', HB3.out, HO3.out⟩
        case measure => simp [intOf]; omega
    · have hk' : k = L.length := by omega
      subst hk'
      have HR : Hid (hfirstV (hread L) = .tuple #[.agg (h3cells 0 0 0), .int .i64 (L.length : Int), .int .i64 9]) := Lib.hid (by rw [hst.last]; rfl)
      have HS := Lib.hid (run_store_all (P := Try.prog) (ty := 40) (c' := h3cells 0 0 0) ha (by kernel_rfl) rfl (h3_one _ _ _))
      have b4 := Lib.hid (ha.setRow (h3cells 0 0 0))
      have s4 := Lib.hid (below_row hs (Nat.le_refl _) (h3cells 0 0 0))
      clear ha hs hrr hst hbk ho
      go_wp2_with ((with_reducible refine is_store 40 rfl ?_); (with_reducible refine wpList_store_run rfl rfl HS.out ?_ ?_ ?_); (· rfl); (· rfl))
      (try simp only [Exit.inBlock, Exit.then])
      refine bodyPost_ret (results_blk3 rfl _ rfl b4.out Try.underlying40 rfl hinfo_head) rfl ⟨by rw [HR.out]; rfl, s4.out⟩
end Go.Proofs.Ytchhbcmkhbfpoaa

/- The contract of what holds two lists of bytes against each other. -/
namespace Go.Proofs.Ytchhbcmkhbfpoaa
open Go.RowKit

theorem run_str {P : Program} {src e dst : TypeId} (hs : P.underlying src = some (.slice e)) (he : P.underlying e = some (.int .u8)) (hd : P.underlying dst = some .string) {w : World} {B : Nat} {A : Option Addr} {zs : List Int} (cap : Nat) (hr : Rd w B .u8 A zs) :
    (convert src dst (.slice A zs.length cap)).run P w = .ok (.string (strOfNums zs)) w := by
  by_cases h0 : 0 < zs.length
  · obtain ⟨b, o, rfl, _, hc⟩ := hr h0
    exact run_convert_bytes_arg w src e hs he b o zs.length cap zs rfl hc dst hd
  · have hz : zs = [] := List.eq_nil_of_length_eq_zero (by omega)
    subst hz
    rw [run_convert_bytes_string w src dst e A _ _ hs he hd]
    cases A with
    | none => rfl
    | some a => exact run_bytesToString w a 0 cap [] (by simpa using run_loadCells_list (P := P) w a [] (by simp))
theorem str_list (zs : List Int) : (strOfNums zs).toList = zs.map (fun n => UInt8.ofNat n.toNat) := by rw [ByteArray.toList_eq, strOfNums_data]
theorem bytes_inj {a b : List Int} (ha : ByteL a) (hb : ByteL b) (h1 : a.map (fun n => UInt8.ofNat n.toNat) = b.map (fun n => UInt8.ofNat n.toNat)) : a = b := by
  have hl : a.length = b.length := by simpa using congrArg List.length h1
  apply List.ext_getElem hl
  intro i i1 i2
  have h2 := congrArg (fun l => l[i]?) h1
  simp only [List.getElem?_map, List.getElem?_eq_getElem i1, List.getElem?_eq_getElem i2, Option.map_some, Option.some.injEq] at h2
  have a1 := ha _ (List.getElem_mem i1)
  have b1 := hb _ (List.getElem_mem i2)
  have h3 := congrArg UInt8.toNat h2
  simp only [UInt8.toNat_ofNat'] at h3
  omega
end Go.Proofs.Ytchhbcmkhbfpoaa

/- The document's scan (layer 14): a part of the bytes as a string. -/
namespace Go.Proofs.Ytchhbcmkhbfpoaa
open Go.RowKit

theorem run_mid {P : Program} {t elem : TypeId} (hu : P.underlying t = some (.slice elem)) (hs : (P.info? elem).map (·.size) = some 1) (w : World) (A : Option Addr) (len cap l h : Nat) (hl : l ≤ h) (hh : h ≤ cap) :
    (Instr.sliceAt t (.slice A len cap) (some (.int .i64 l)) (some (.int .i64 h)) none).run P w = .ok (.slice (cutA A l cap) (h - l) (cap - l)) w := by
  have hz : ∀ w, (sizeOf elem).run P w = .ok 1 w := fun w => by
    cases hq : P.info? elem with
    | none => simp [hq] at hs
    | some i =>
      have : i.size = 1 := by simpa [hq] using hs
      simp [sizeOf, typeInfo, hq, this]
  have he : P.elem t = elem := by simp [Program.elem, hu]
  rw [run_sliceAt_slice w t _ _ _ _ (by rw [he]; exact hu), run_slice_lh w t A len cap (by rw [he]; exact hu) .i64 .i64 l h (by omega) (by omega) (by omega), he, hz]
  simp [sliced, cutA]
theorem rd_first {w : World} {B : Nat} {k : IntKind} {A : Option Addr} {zs : List Int} (h : Rd w B k A zs) (m : Nat) : Rd w B k A (zs.take m) := fun hn => by
  rw [List.length_take] at hn
  obtain ⟨b, o, hA, hb, hc⟩ := h (by omega)
  refine ⟨b, o, hA, hb, fun i hi => ?_⟩
  rw [List.length_take] at hi
  rw [hc i (by omega), List.getD_eq_getElem?_getD, List.getD_eq_getElem?_getD, List.getElem?_take, if_pos (by omega)]
theorem rd_slice {w : World} {B : Nat} {k : IntKind} {A : Option Addr} {zs : List Int} (h : Rd w B k A zs) (l m cap : Nat) (hc : zs.length ≤ cap) : Rd w B k (cutA A l cap) (slice zs l m) := rd_first (h.cut l cap hc) (m - l)
/-- string(b[l:h]). -/
theorem run_part {w : World} {B : Nat} {A : Option Addr} {L : List Int} (hr : Rd w B .u8 A L) (cap l h : Nat) (hc : L.length ≤ cap) (hl : l ≤ h) (hh : h ≤ L.length) :
    (Instr.sliceAt 22 (.slice A L.length cap) (some (.int .i64 l)) (some (.int .i64 h)) none).run Try.prog w = .ok (.slice (cutA A l cap) (slice L l h).length (cap - l)) w ∧
    (convert 22 9 (.slice (cutA A l cap) (slice L l h).length (cap - l))).run Try.prog w = .ok (.string (strOfNums (slice L l h))) w :=
  ⟨by rw [length_slice hh]; exact run_mid (elem := 5) (by kernel_rfl) (by kernel_rfl) w A L.length cap l h hl (Nat.le_trans hh hc),
   run_str (P := Try.prog) (e := 5) (by kernel_rfl) (by kernel_rfl) (by kernel_rfl) (cap - l) (rd_slice hr l h cap hc)⟩
end Go.Proofs.Ytchhbcmkhbfpoaa

/- Package plain: readMany, simple, read. -/
namespace Go.Proofs.Ytchhbcmkhbfpoaa
open Go.RowKit

/-- What read answers. -/
def ReadP (L : List Int) (B0 : Nat) (x : It) (e : Nat) (w : World) (r : Ending) (w' : World) : Prop :=
  ∃ Ax cx A' c', r = .returned (.tuple #[vI x Ax cx, .slice A' (L.length - e) c']) ∧ AtS w' (fun b => w.heap.size ≤ b) x Ax cx ∧ Rd w' B0 .u8 A' (L.drop e) ∧ L.length - e ≤ c' ∧ Below w.heap.size w w'
def ReadC (L : List Int) (item : Nat → Option (It × Nat)) : Prop :=
  ∀ (a : Nat) (x : It) (e : Nat) (w : World) (A : Option Addr) (cap B0 : Nat), B0 ≤ w.heap.size → item a = some (x, e) → Rd w B0 .u8 A (L.drop a) → L.length - a ≤ cap →
    Calls Try.prog 30 #[.slice A (L.length - a) cap] w fun r w' => ReadP L B0 x e w r w'
theorem item_zero : ∀ w, (zeroValue 56).run Try.prog w = .ok (.agg #[.int .i64 0, .int .u64 0, .string ⟨#[]⟩, .slice none 0 0]) w := (zero_of_info (n := 4) (by kernel_rfl)).1
set_option maxRecDepth 4000 in
set_option maxHeartbeats 1000000 in
theorem plain_readMany (L : List Int) (item : Nat → Option (It × Nat)) (hR : ReadC L item) (hbd : ∀ a x e, item a = some (x, e) → a < e ∧ e ≤ L.length ∧ x.count ≤ e - a) (hl : L.length ≤ 300) (n a : Nat) (l : List It) (e : Nat) (h : prsMany item n a = some (l, e)) (ha : a ≤ L.length) (w : World) (A : Option Addr) (cap B0 : Nat) (hB0 : B0 ≤ w.heap.size) (hr : Rd w B0 .u8 A (L.drop a)) (hc : L.length - a ≤ cap) :
    Calls Try.prog 40 #[.slice A (L.length - a) cap, .int .u64 (n : Int)] w fun r w' => ∃ v A' c', r = .returned (.tuple #[v, .slice A' (L.length - e) c']) ∧ OwnT w' w.heap.size v l ∧ Rd w' B0 .u8 A' (L.drop e) ∧ L.length - e ≤ c' ∧ Below w.heap.size w w' := by
  have hbn := prsMany_bd (B := L) hbd n a l e ha h
  have hn3 : (n : Int) ≤ 1000 := by
    have h1 := length_le_countL l
    have := hbn.2.2.1; have := hbn.2.2.2; omega
  have HLL : Hid (Unit → l.length ≤ 300) := fun _ => by
    have h1 := length_le_countL l
    have := hbn.2.2.2; omega
  have HR := Lib.hid hR
  have HBD := Lib.hid hbd
  have HB0 := Lib.hid hB0
  have HI : Hid (∃ rest, prsMany item (n - 0) a = some (rest, e) ∧ [] ++ rest = l) := ⟨l, h, rfl⟩
  have HRd := Lib.hid hr
  have HZ := item_zero
  have HA := Lib.hid ha
  have HC := Lib.hid hc
  have HN : Hid (Unit → True) := fun _ => trivial
  have hn0 : (0 : Int) ≤ (n : Int) := by omega
  clear hR hbd h ha hB0 hr hc hbn hl HN
  go_enter Try.func40, Try.ntmps40
  go_wp2_with fail
  go_loopw [0, 6, 10] (fun vb v i wr => ∃ (k a' : Nat) (its : List It) (A' : Option Addr) (c' : Nat) (vv : Value), (k : Int) ≤ (n : Int) ∧ i = .int .u64 k ∧ vb = .slice A' (L.length - a') c' ∧ vv = v ∧ Hid (∃ rest, prsMany item (n - k) a' = some (rest, e) ∧ its ++ rest = l) ∧ Hid (OwnT wr w.heap.size vv its) ∧ Hid (Rd wr B0 .u8 A' (L.drop a')) ∧ Hid (L.length - a' ≤ c') ∧ Hid (a' ≤ L.length) ∧ Hid (Below w.heap.size w wr)) (fun _ _ i _ => n - (intOf i).toNat)
  case atStart => exact ⟨0, a, [], A, cap, _, by omega, rfl, rfl, rfl, HI, OwnT.nil _ _, HRd, HC, HA, Below.refl _ _⟩
  case round =>
    clear HI HRd HC HA
    obtain ⟨k, a', its, A', c', vv, hk, rfl, rfl, hvv, HI, HO, HRd, HC, HA, HW⟩ := hrel
    subst hvv
    have hk0 : (0 : Int) ≤ (k : Int) := by omega
    by_cases hlt : (k : Int) < (n : Int)
    · obtain ⟨rest, hi, hl'⟩ := HI.out
      obtain ⟨m, hm⟩ : ∃ m, n - k = m + 1 := ⟨n - k - 1, by omega⟩
      rw [hm] at hi
      unfold prsMany at hi
      split at hi
      · cases hi
      next x e1 hx =>
      split at hi
      · cases hi
      next l2 e2 hl2 =>
      injection hi with hi
      injection hi with hi1 hi2
      subst hi1 hi2
      obtain ⟨d1, d2, d3⟩ := HBD.out a' x e1 hx
      have HRC := Lib.hid (HR.out a' x e1 wr A' c' B0 (Nat.le_trans HB0.out HW.out.size) hx HRd.out HC.out)
      have HIN : Hid (∃ rest, prsMany item (n - (k + 1)) e1 = some (rest, e2) ∧ (its ++ [x]) ++ rest = l) := ⟨l2, by rw [show n - (k + 1) = m by omega]; exact hl2, by simpa using hl'⟩
      have HIT : Hid (Unit → its.length + 1 ≤ 1099511627776) := fun _ => by
        have h2 : its.length + 1 ≤ l.length := by rw [← hl']; simp
        have := HLL.out ()
        omega
      have HE1 := Lib.hid d2
      have hvl : ∀ q, vv.ownBlock = some q → q < wr.heap.size := fun q hq => by
        obtain ⟨cs, h1, _⟩ := HO.out
        rcases own_ltb h1 with h2 | ⟨g, h2, _, h3⟩
        · rw [h2] at hq; cases hq
        · rw [h2] at hq; injection hq with hq; omega
      have HVL := Lib.hid hvl
      unfold ReadP vI at HRC
      clear d1 d2 d3 hx hl2 hm hl' HI hvl
      go_wp2_with fail
      refine HRC.out.mono ?_
      rintro r w5 ⟨Ax, cx, A2, c2, rfl, hat, hrd, hc2, hb5⟩
      -- the variable x, then the slice of one
      have hb5w : Below w.heap.size w w5 := HW.out.trans (hb5.mono HW.out.size)
      have S6 := below_alloc w5 (.cells #[.int .i64 x.k, .int .u64 x.n, .string x.s, .slice Ax x.l.length cx] 56)
      have b6 : Blk (w5.alloc (.cells #[.int .i64 x.k, .int .u64 x.n, .string x.s, .slice Ax x.l.length cx] 56)) w5.heap.size 56 #[.int .i64 x.k, .int .u64 x.n, .string x.s, .slice Ax x.l.length cx] := Blk.fresh _ _ _
      obtain ⟨w6, hw6⟩ : ∃ w6, w5.alloc (.cells #[.int .i64 x.k, .int .u64 x.n, .string x.s, .slice Ax x.l.length cx] 56) = w6 := ⟨_, rfl⟩
      rw [hw6] at S6 b6
      have hX6 : AtS w6 (fun b => w.heap.size ≤ b ∧ b < w6.heap.size ∧ vv.ownBlock ≠ some b) x Ax cx := by
        refine ⟨hat.le, hat.nil, AtL.keep (w := w5) (S := fun b => wr.heap.size ≤ b ∧ b < w5.heap.size) (fun b hb _ => S6.block b hb.2) (fun b hb => ⟨Nat.le_trans HW.out.size hb.1, Nat.lt_of_lt_of_le hb.2 S6.size, fun e => ?_⟩) _ _ hat.at_.bound⟩
        have := HVL.out b e
        omega
      have hO6 := (HO.out.on hb5).on S6
      obtain ⟨v', w7, r1, hO7, hb7, hg7⟩ := hO6.add (Nat.le_trans hb5w.size S6.size) hX6 (HIT.out ())
      have c0 := b6.cell 0
      have c1 := b6.cell 1
      have c2' := b6.cell 2
      have c3 := b6.cell 3
      simp only [List.getElem?_toArray, List.getElem?_cons_zero, List.getElem?_cons_succ] at c0 c1 c2' c3
      have HO7 := Lib.hid hO7
      have hb6w := hb5w.trans (S6.mono hb5w.size)
      have HW7 := Lib.hid (hb6w.trans hb7)
      have HRd7 : Hid (Rd w7 B0 .u8 A2 (L.drop e1)) := (hrd.below ((S6.mono (Nat.le_trans HB0.out hb5w.size)))).below (hb7.mono HB0.out)
      have HC7 := Lib.hid hc2
      have HR1 := Lib.hid r1
      clear r1 hat hrd hc2 hb5 hb5w S6 b6 hX6 hO6 hO7 hb7 hg7 hb6w HRC HIT HVL HO HRd HC HA HW HR
      have ew : IntKind.u64.wrap ((k : Int) + 1) = (k : Int) + 1 := IntWalk.u64_in _ (by omega)
      go_wp2_with ((with_reducible refine is_append 54 rfl ?_); (with_reducible refine wpList_append_run rfl rfl HR1.out ?_ ?_ ?_); (· rfl); (· rfl))
      go_roundw
      case rel => exact ⟨k + 1, e1, its ++ [x], A2, c2, v', by omega, by go_num, rfl, rfl, HIN, HO7, HRd7, HC7, HE1, HW7⟩
      case measure => simp [intOf]; omega
    · obtain ⟨rest, hi, hl'⟩ := HI.out
      have hkn : n - k = 0 := by omega
      rw [hkn] at hi
      injection hi with hi
      injection hi with hi1 hi2
      subst hi1 hi2
      rw [List.append_nil] at hl'
      subst hl'
      clear HI hkn HR HBD
      go_wp2_with fail
      refine bodyPost_ret (results_tmp2 rfl _ _ _) rfl ?_
      exact ⟨vv, A', c', rfl, HO.out, HRd.out, by have := HC.out; omega, HW.out⟩
end Go.Proofs.Ytchhbcmkhbfpoaa

/- Package plain: simple, read. -/
namespace Go.Proofs.Ytchhbcmkhbfpoaa
open Go.RowKit

section
variable {P : Program}
theorem run_cutU {t elem : TypeId} (hu : P.underlying t = some (.slice elem)) (hs : (P.info? elem).map (·.size) = some 1) (w : World) (A : Option Addr) (len cap n : Nat) (ni : Int) (hni : ni = n) (hn : n ≤ len) :
    (Instr.sliceAt t (.slice A len cap) (some (.int .u64 ni)) none none).run P w = .ok (.slice (cutA A n cap) (len - n) (cap - n)) w := by
  subst hni
  have hz : ∀ w, (sizeOf elem).run P w = .ok 1 w := fun w => by
    cases hq : P.info? elem with
    | none => simp [hq] at hs
    | some i =>
      have : i.size = 1 := by simpa [hq] using hs
      simp [sizeOf, typeInfo, hq, this]
  have he : P.elem t = elem := by simp [Program.elem, hu]
  rw [run_sliceAt_slice w t _ _ _ _ (by rw [he]; exact hu), run_slice_l w t A len cap (by rw [he]; exact hu) .u64 n (by omega) (by omega), he, hz]
  simp [sliced, cutA]
theorem run_headU {t elem : TypeId} (hu : P.underlying t = some (.slice elem)) (hs : (P.info? elem).map (·.size) = some 1) (w : World) (A : Option Addr) (len cap n : Nat) (ni : Int) (hni : ni = n) (hn : n ≤ cap) :
    (Instr.sliceAt t (.slice A len cap) none (some (.int .u64 ni)) none).run P w = .ok (.slice (cutA A 0 cap) n cap) w := by
  subst hni
  have hz : ∀ w, (sizeOf elem).run P w = .ok 1 w := fun w => by
    cases hq : P.info? elem with
    | none => simp [hq] at hs
    | some i =>
      have : i.size = 1 := by simpa [hq] using hs
      simp [sizeOf, typeInfo, hq, this]
  have he : P.elem t = elem := by simp [Program.elem, hu]
  rw [run_sliceAt_slice w t _ _ _ _ (by rw [he]; exact hu), run_slice_h w t A len cap (by rw [he]; exact hu) .u64 n (by omega) (by omega), he, hz]
  simp [sliced, cutA]
end
/-- Widen, of a width that is one of a float's. -/
def FW (W g : Int) : Prop := W = 2 ∧ g < 65536 ∨ W = 4 ∧ g < 4294967296 ∨ W = 8
theorem float_WidenW (W g : Int) (h : FW W g) (h0 : 0 ≤ g) (h1 : g < 18446744073709551616) (w : World) :
    Calls Try.prog 55 #[.int .u64 g, .int .i64 W] w fun e w' => e = .returned (.tuple #[.int .u64 (widN W g), .bool true]) ∧ Below w.heap.size w w' := by
  obtain ⟨x, rfl⟩ : ∃ x : Nat, g = x := ⟨g.toNat, by omega⟩
  rcases h with ⟨rfl, h⟩ | ⟨rfl, h⟩ | rfl
  · refine (float_Widen_half x (by omega) w).mono ?_
    rintro e w' ⟨z, rfl, hz, hb⟩
    exact ⟨by rw [widN_eq (W := 2) (.inl ⟨rfl, hz⟩)], hb⟩
  · refine (float_Widen_single x (by omega) w).mono ?_
    rintro e w' ⟨z, rfl, hz, hb⟩
    exact ⟨by rw [widN_eq (W := 4) (.inr (.inl ⟨rfl, hz⟩))], hb⟩
  · refine (float_Widen_double x (by omega) w).mono ?_
    rintro e w' ⟨z, rfl, hz, hb⟩
    exact ⟨by rw [widN_eq (W := 8) (.inr (.inr ⟨rfl, hz⟩))], hb⟩
theorem ref_WidenW (W g : Int) (h : FW W g) (h0 : 0 ≤ g) (h1 : g < 18446744073709551616) (w : World) :
    Calls Try.prog 32 #[.int .u64 g, .int .i64 W] w fun e w' => e = .returned (.tuple #[.int .u64 (widN W g), .bool true]) ∧ Below w.heap.size w w' := by
  obtain ⟨x, rfl⟩ : ∃ x : Nat, g = x := ⟨g.toNat, by omega⟩
  rcases h with ⟨rfl, h⟩ | ⟨rfl, h⟩ | rfl
  · refine (ref_Widen_half x (by omega) w).mono ?_
    rintro e w' ⟨⟨z, rfl, hz⟩, hb⟩
    exact ⟨by rw [widN_eq (W := 2) (.inl ⟨rfl, hz⟩)], hb⟩
  · refine (ref_Widen_single x (by omega) w).mono ?_
    rintro e w' ⟨⟨z, rfl, hz⟩, hb⟩
    exact ⟨by rw [widN_eq (W := 4) (.inr (.inl ⟨rfl, hz⟩))], hb⟩
  · refine (ref_Widen_double x (by omega) w).mono ?_
    rintro e w' ⟨⟨z, rfl, hz⟩, hb⟩
    exact ⟨by rw [widN_eq (W := 8) (.inr (.inr ⟨rfl, hz⟩))], hb⟩
def icells (k n : Int) (s : ByteArray) (A : Option Addr) (l c : Nat) : Array Value := #[.int .i64 k, .int .u64 n, .string s, .slice A l c]
theorem it_info : (Try.prog.info? 56).map (·.size) = some 4 := by kernel_rfl
theorem it_one (k n : Int) (s : ByteArray) (A : Option Addr) (l c : Nat) : (icells k n s A l c).all (·.oneCell') = true := by
  rw [Array.all_eq_true_iff_forall_mem]
  intro x hx
  simp [icells] at hx
  rcases hx with rfl | rfl | rfl | rfl <;> rfl
/-- A result's block is filled. -/
theorem it_fill {w w0 : World} {B g : Nat} {cs : Array Value} (hb : Blk w g 56 cs) (hw : Below B w0 w) (hg : B ≤ g) (k n : Int) (s : ByteArray) (A : Option Addr) (l c : Nat) (hs : cs.size = 4 := by rfl) :
    (Instr.storeAt 56 (.pointer (some ⟨g, 0, none⟩)) (.agg #[.int .i64 k, .int .u64 n, .string s, .slice A l c])).run Try.prog w = .ok () (w.setRow g #[.int .i64 k, .int .u64 n, .string s, .slice A l c]) ∧
    Blk (w.setRow g #[.int .i64 k, .int .u64 n, .string s, .slice A l c]) g 56 #[.int .i64 k, .int .u64 n, .string s, .slice A l c] ∧ Below B w0 (w.setRow g #[.int .i64 k, .int .u64 n, .string s, .slice A l c]) ∧ Only g w (w.setRow g #[.int .i64 k, .int .u64 n, .string s, .slice A l c]) :=
  ⟨run_store_all hb it_info hs (it_one k n s A l c), hb.setRow _, below_row hw hg _, (Only.refl g w).setRow _⟩
set_option maxRecDepth 4000 in
set_option maxHeartbeats 1000000 in
theorem plain_simple (m W g : Int) (h : W = 0 ∨ W = 1 ∨ FW W g) (h0 : 0 ≤ g) (h1 : g < 18446744073709551616) (w : World) :
    Calls Try.prog 41 #[.agg #[.int .i64 m, .int .i64 W, .int .u64 g]] w fun e w' => e = .returned (.agg #[.int .i64 (if 1 < W then 8 else 7), .int .u64 (if 1 < W then widN W g else g), .string ⟨#[]⟩, .slice none 0 0]) ∧ Below w.heap.size w w' := by
  have b1 := (Blk.fresh w 40 #[.int .i64 m, .int .i64 W, .int .u64 g]).alloc (.cells #[.int .i64 0, .int .u64 0, .string ⟨#[]⟩, .slice none 0 0] 56)
  have b2 := Blk.fresh (w.alloc (.cells #[.int .i64 m, .int .i64 W, .int .u64 g] 40)) 56 #[.int .i64 0, .int .u64 0, .string ⟨#[]⟩, .slice none 0 0]
  have bl := (below_alloc w (.cells #[.int .i64 m, .int .i64 W, .int .u64 g] 40)).alloc (by simp) (.cells #[.int .i64 0, .int .u64 0, .string ⟨#[]⟩, .slice none 0 0] 56)
  rw [World.size_alloc] at b2
  obtain ⟨w2, hw2⟩ : ∃ w2, (w.alloc (.cells #[.int .i64 m, .int .i64 W, .int .u64 g] 40)).alloc (.cells #[.int .i64 0, .int .u64 0, .string ⟨#[]⟩, .slice none 0 0] 56) = w2 := ⟨_, rfl⟩
  rw [hw2] at b1 b2 bl
  have c1 := b1.cell 1
  have c2 := b1.cell 2
  simp only [List.getElem?_toArray, List.getElem?_cons_zero, List.getElem?_cons_succ] at c1 c2
  have HZ := item_zero
  have HB2 := Lib.hid b2
  have HBL := Lib.hid bl
  by_cases hW : 1 < W
  · rw [if_pos hW, if_pos hW]
    have HF := Lib.hid (fun v => float_WidenW W g (h.elim (fun e => by omega) (fun h => h.elim (fun e => by omega) id)) h0 h1 v)
    have hW2 : ¬ W < 2 := by omega
    obtain ⟨z, hz⟩ : ∃ z, widN W g = z := ⟨_, rfl⟩
    rw [hz] at HF ⊢
    clear b1 b2 bl h h0 h1 hz
    go_enter Try.func41, Try.ntmps41
    go_wp2_with fail
    refine (HF.out w2).mono ?_
    rintro e w3 ⟨rfl, hb3⟩
    obtain ⟨r1, r2, r3, -⟩ := it_fill (HB2.out.on hb3) (HBL.out.trans (hb3.mono HBL.out.size)) (by omega) 8 z ⟨#[]⟩ none 0 0
    have H1 := Lib.hid r1
    have H2 := Lib.hid r2
    have H3 := Lib.hid r3
    clear r1 r2 r3 hb3 HB2 HBL HF c1 c2
    go_wp2_with ((with_reducible refine is_store 56 rfl ?_); (with_reducible refine wpList_store_run rfl rfl H1.out ?_ ?_ ?_); (· rfl); (· rfl))
    refine bodyPost_ret (results_blk rfl _ rfl H2.out Try.underlying56 rfl it_info) rfl ?_
    exact ⟨rfl, H3.out⟩
  · rw [if_neg hW, if_neg hW]
    have hW2 : W < 2 := by omega
    obtain ⟨r1, r2, r3, -⟩ := it_fill HB2.out HBL.out (by omega) 7 g ⟨#[]⟩ none 0 0
    have H1 := Lib.hid r1
    have H2 := Lib.hid r2
    have H3 := Lib.hid r3
    clear b1 b2 bl h h0 h1 r1 r2 r3 HB2 HBL
    go_enter Try.func41, Try.ntmps41
    go_wp2_with ((with_reducible refine is_store 56 rfl ?_); (with_reducible refine wpList_store_run rfl rfl H1.out ?_ ?_ ?_); (· rfl); (· rfl))
    refine bodyPost_ret (results_blk rfl _ rfl H2.out Try.underlying56 rfl it_info) rfl ?_
    exact ⟨rfl, H3.out⟩
end Go.Proofs.Ytchhbcmkhbfpoaa
