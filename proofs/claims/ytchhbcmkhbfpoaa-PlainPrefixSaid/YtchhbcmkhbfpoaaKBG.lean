/- Package head: a reader that lies in another struct. -/
import Derived.Test.YtchhbcmkhbfpoaaKAV
import Derived.Test.YtchhbcmkhbfpoaaKBF
import Derived.Test.YtchhbcmkhbfpoaaKAY
import Derived.Test.YtchhbcmkhbfpoaaKAO
namespace Go.Proofs.Ytchhbcmkhbfpoaa
open Go.RowKit

section
variable {oo : Nat} {tt : TypeId} {pa pb : Array Value}
theorem hfd {w : World} {g : Nat} {m W a l e : Int} {o : Bool} (h : Fd w g oo tt pa (hcells ⟨m, W, a, l, o, e⟩) pb) :
    w.cell? ⟨g, oo, none⟩ = some (.int .i64 m) ∧ w.cell? ⟨g, oo + 1, none⟩ = some (.int .i64 W) ∧ w.cell? ⟨g, oo + 2, none⟩ = some (.int .u64 a) ∧ w.cell? ⟨g, oo + 3, none⟩ = some (.int .i64 l) ∧ w.cell? ⟨g, oo + 4, none⟩ = some (.bool o) ∧ w.cell? ⟨g, oo + 5, none⟩ = some (.int .i64 e) ∧ (∀ i, w.frozen? ⟨g, i, none⟩ = false) :=
  ⟨h.cell 0, h.cell 1, h.cell 2, h.cell 3, h.cell 4, h.cell 5, h.free⟩
theorem h3_loadO {w : World} {g : Nat} {q : HQ} (h : Fd w g oo tt pa (hcells q) pb) :
    (Instr.loadAt 40 (.pointer (some ⟨g, oo, none⟩))).run Try.prog w = .ok (.agg (h3cells q.major q.width q.arg)) w :=
  run_load_blk (a := pa) (b := #[.int .i64 q.left, .bool q.opn, .int .i64 q.wrong] ++ pb) (o := oo) h.1 (by
    rw [show hcells q = h3cells q.major q.width q.arg ++ #[.int .i64 q.left, .bool q.opn, .int .i64 q.wrong] from rfl]
    simp only [Array.append_assoc]) h.2 Try.underlying40 rfl (by kernel_rfl)
set_option maxRecDepth 4000 in
set_option maxHeartbeats 4000000 in
theorem head_begO (c m i : Int) (hm : c / 32 = m) (HA : bits .and .u8 c 31 = i) (hm0 : 0 ≤ m) (hm7 : m ≤ 7) (hi0 : 0 ≤ i) (hi1 : i < 32) (q : HQ) (w : World) (g : Nat) (hg : Fd w g oo tt pa (hcells q) pb) :
    Calls Try.prog 67 #[.pointer (some ⟨g, oo, none⟩), .int .u8 c] w fun e w' => e = .returned (.tuple #[]) ∧ Fd w' g oo tt pa (hcells (hbeg m i)) pb ∧ Only g w w' := by
  have HS := Lib.hid (run_store_blk (P := Try.prog) (ty := 69) (c' := hcells ⟨m, 0, 0, 0, true, 0⟩) (a := pa) (b := pb) (o := oo) hg.1 rfl hg.2 (by kernel_rfl) rfl (hcells_one _))
  have B1 := hg.row (hcells ⟨m, 0, 0, 0, true, 0⟩)
  have O1 := Lib.hid ((Only.refl g w).setRow (pa ++ hcells ⟨m, 0, 0, 0, true, 0⟩ ++ pb))
  generalize w.setRow g (pa ++ hcells ⟨m, 0, 0, 0, true, 0⟩ ++ pb) = w1 at *
  obtain ⟨c0, c1, c2, c3, c4, c5, fz⟩ := hfd B1
  have f1 := fz (oo + 1)
  have f2 := fz (oo + 2)
  have f3 := fz (oo + 3)
  have f5 := fz (oo + 5)
  have HB1 := Lib.hid B1
  clear fz hg B1
  by_cases hs : i < 24
  · have e1 : hbeg m i = ⟨m, 0, i, 0, true, 0⟩ := by unfold hbeg; rw [if_neg (by omega), if_pos hs]
    rw [e1]
    clear e1
    go_enter Try.func67, Try.ntmps67
    go_wp2_with ((with_reducible refine is_store 69 rfl ?_); (with_reducible refine wpList_store_run rfl rfl HS.out ?_ ?_ ?_); (· rfl); (· rfl))
    go_end0
    exact ⟨rfl, HB1.out.put 2 (.int .u64 i), O1.out.put (oo + 2) _⟩
  by_cases h28 : 28 ≤ i
  · by_cases h31 : i = 31
    · subst h31
      by_cases hm25 : 2 ≤ m ∧ m ≤ 5
      · have e1 : hbeg m 31 = ⟨m, 0, 0, 0, true, 5⟩ := by unfold hbeg hbad; rw [if_pos (by decide), if_neg (by decide), if_pos ⟨rfl, hm25⟩]
        obtain ⟨hm2, hm5⟩ := hm25
        rw [e1]
        clear e1
        go_enter Try.func67, Try.ntmps67
        go_wp2_with ((with_reducible refine is_store 69 rfl ?_); (with_reducible refine wpList_store_run rfl rfl HS.out ?_ ?_ ?_); (· rfl); (· rfl))
        (try simp only [Exit.inBlock, Exit.then])
        refine bodyPost_ret (results_none rfl _ _ _) rfl ?_
        exact ⟨rfl, HB1.out.put 5 (.int .i64 5), O1.out.put (oo + 5) _⟩
      · have e1 : hbeg m 31 = ⟨m, 0, 0, 0, true, 2⟩ := by unfold hbeg hbad; rw [if_pos (by decide), if_neg (by decide), if_neg (fun h => hm25 h.2)]
        rw [e1]
        clear e1
        by_cases hm2 : 2 ≤ m
        · have hm5 : ¬ m ≤ 5 := fun h => hm25 ⟨hm2, h⟩
          clear hm25
          go_enter Try.func67, Try.ntmps67
          go_wp2_with ((with_reducible refine is_store 69 rfl ?_); (with_reducible refine wpList_store_run rfl rfl HS.out ?_ ?_ ?_); (· rfl); (· rfl))
          go_end0
          exact ⟨rfl, HB1.out.put 5 (.int .i64 2), O1.out.put (oo + 5) _⟩
        · clear hm25
          go_enter Try.func67, Try.ntmps67
          go_wp2_with ((with_reducible refine is_store 69 rfl ?_); (with_reducible refine wpList_store_run rfl rfl HS.out ?_ ?_ ?_); (· rfl); (· rfl))
          go_end0
          exact ⟨rfl, HB1.out.put 5 (.int .i64 2), O1.out.put (oo + 5) _⟩
    · have e1 : hbeg m i = ⟨m, 0, 0, 0, true, 2⟩ := by unfold hbeg hbad; rw [if_pos h28, if_neg (by omega), if_neg (fun h => h31 h.1)]
      rw [e1]
      clear e1
      have h3 : i = 28 ∨ i = 29 ∨ i = 30 := by omega
      clear h28 h31 hs
      rcases h3 with rfl | rfl | rfl
      all_goals
        go_enter Try.func67, Try.ntmps67
        go_wp2_with ((with_reducible refine is_store 69 rfl ?_); (with_reducible refine wpList_store_run rfl rfl HS.out ?_ ?_ ?_); (· rfl); (· rfl))
        go_end0
        exact ⟨rfl, HB1.out.put 5 (.int .i64 2), O1.out.put (oo + 5) _⟩
  · rcases hwid_of i (by omega) (by omega) with ⟨rfl, hw⟩ | ⟨rfl, hw⟩ | ⟨rfl, hw⟩ | ⟨rfl, hw⟩
    · have e1 : hbeg m 24 = ⟨m, 1, 0, 1, true, 0⟩ := rfl
      rw [e1]
      clear e1 hw hs h28
      go_enter Try.func67, Try.ntmps67
      go_wp2_with ((with_reducible refine is_store 69 rfl ?_); (with_reducible refine wpList_store_run rfl rfl HS.out ?_ ?_ ?_); (· rfl); (· rfl))
      go_end0
      exact ⟨rfl, (HB1.out.put 1 (.int .i64 1)).put 3 (.int .i64 1), (O1.out.put (oo + 1) _).put (oo + 3) _⟩
    · have e1 : hbeg m 25 = ⟨m, 2, 0, 2, true, 0⟩ := rfl
      rw [e1]
      clear e1 hw hs h28
      go_enter Try.func67, Try.ntmps67
      go_wp2_with ((with_reducible refine is_store 69 rfl ?_); (with_reducible refine wpList_store_run rfl rfl HS.out ?_ ?_ ?_); (· rfl); (· rfl))
      go_end0
      exact ⟨rfl, (HB1.out.put 1 (.int .i64 2)).put 3 (.int .i64 2), (O1.out.put (oo + 1) _).put (oo + 3) _⟩
    · have e1 : hbeg m 26 = ⟨m, 4, 0, 4, true, 0⟩ := rfl
      rw [e1]
      clear e1 hw hs h28
      go_enter Try.func67, Try.ntmps67
      go_wp2_with ((with_reducible refine is_store 69 rfl ?_); (with_reducible refine wpList_store_run rfl rfl HS.out ?_ ?_ ?_); (· rfl); (· rfl))
      go_end0
      exact ⟨rfl, (HB1.out.put 1 (.int .i64 4)).put 3 (.int .i64 4), (O1.out.put (oo + 1) _).put (oo + 3) _⟩
    · have e1 : hbeg m 27 = ⟨m, 8, 0, 8, true, 0⟩ := rfl
      rw [e1]
      clear e1 hw hs h28
      go_enter Try.func67, Try.ntmps67
      go_wp2_with ((with_reducible refine is_store 69 rfl ?_); (with_reducible refine wpList_store_run rfl rfl HS.out ?_ ?_ ?_); (· rfl); (· rfl))
      go_end0
      exact ⟨rfl, (HB1.out.put 1 (.int .i64 8)).put 3 (.int .i64 8), (O1.out.put (oo + 1) _).put (oo + 3) _⟩
theorem head_beginO (c : Int) (h0 : 0 ≤ c) (h1 : c < 256) (q : HQ) (w : World) (g : Nat) (hg : Fd w g oo tt pa (hcells q) pb) :
    Calls Try.prog 67 #[.pointer (some ⟨g, oo, none⟩), .int .u8 c] w fun e w' => e = .returned (.tuple #[]) ∧ Fd w' g oo tt pa (hcells (hbegin c)) pb ∧ Only g w w' :=
  head_begO c (c / 32) (c % 32) rfl (and31 c h0 h1) (by omega) (by omega) (by omega) (by omega) q w g hg
set_option maxHeartbeats 1000000 in
theorem head_followO (c : Int) (h0 : 0 ≤ c) (h1 : c < 256) (q : HQ) (hok : HOk q) (hl : 0 < q.left) (w : World) (g : Nat) (hg : Fd w g oo tt pa (hcells q) pb) :
    Calls Try.prog 66 #[.pointer (some ⟨g, oo, none⟩), .int .u8 c] w fun e w' => e = .returned (.tuple #[]) ∧ Fd w' g oo tt pa (hcells (hfollow q c)) pb ∧ Only g w w' := by
  obtain ⟨m, W, a, l, o, e⟩ := q
  obtain ⟨ha0, ha1, hl0, hl8⟩ := hok
  dsimp only at ha0 ha1 hl0 hl8 hl
  obtain ⟨c0, c1, c2, c3, c4, c5, fz⟩ := hfd hg
  have f2 := fz (oo + 2)
  have f3 := fz (oo + 3)
  have f5 := fz (oo + 5)
  clear fz
  have HO := or_step64 a c ha0 ⟨h0, h1⟩
  rw [← IntKind.wrap_u64] at HO
  have hb0 : 0 ≤ (a * 256 + c) % 18446744073709551616 := Int.emod_nonneg _ (by decide)
  have hb1 : (a * 256 + c) % 18446744073709551616 < 18446744073709551616 := Int.emod_lt_of_pos _ (by decide)
  have HB := Lib.hid hg
  unfold hfollow
  dsimp only
  generalize (a * 256 + c) % 18446744073709551616 = x at *
  clear hg
  by_cases hm : m = 7
  · subst hm
    by_cases hW : W = 1
    · subst hW
      by_cases hx : x < 32
      · rw [if_pos ⟨rfl, rfl, hx⟩]
        go_enter Try.func66, Try.ntmps66
        go_wp2_with fail
        go_end0
        exact ⟨rfl, ((HB.out.put 2 (.int .u64 x)).put 3 (.int .i64 (l - 1))).put 5 (.int .i64 2), (((Only.refl g w).put (oo + 2) _).put (oo + 3) _).put (oo + 5) _⟩
      · rw [if_neg (fun h => hx h.2.2)]
        go_enter Try.func66, Try.ntmps66
        go_wp2_with fail
        go_end0
        exact ⟨rfl, (HB.out.put 2 (.int .u64 x)).put 3 (.int .i64 (l - 1)), ((Only.refl g w).put (oo + 2) _).put (oo + 3) _⟩
    · rw [if_neg (fun h => hW h.2.1)]
      go_enter Try.func66, Try.ntmps66
      go_wp2_with fail
      go_end0
      exact ⟨rfl, (HB.out.put 2 (.int .u64 x)).put 3 (.int .i64 (l - 1)), ((Only.refl g w).put (oo + 2) _).put (oo + 3) _⟩
  · rw [if_neg (fun h => hm h.1)]
    go_enter Try.func66, Try.ntmps66
    go_wp2_with fail
    go_end0
    exact ⟨rfl, (HB.out.put 2 (.int .u64 x)).put 3 (.int .i64 (l - 1)), ((Only.refl g w).put (oo + 2) _).put (oo + 3) _⟩
/-- What a step answers, by the state in its middle. -/
def HPostO (g oo : Nat) (tt : TypeId) (pa pb : Array Value) (w : World) (p : HQ) (e : Ending) (w' : World) : Prop :=
  (p.more → e = .returned (.tuple #[.bool false, .int .i64 p.wrong]) ∧ Fd w' g oo tt pa (hcells p) pb ∧ Only g w w') ∧
  (¬ p.more → e = .returned (.tuple #[.bool true, .int .i64 (if hshort p.major p.width p.arg then 0 else 5)]) ∧ Fd w' g oo tt pa (hcells { p with opn := false }) pb ∧ Only g w w')
theorem HPostO.out {g : Nat} {w : World} {q : HQ} {c : Int} {e : Ending} {w' : World} (h : HPostO g oo tt pa pb w (hmid q c) e w') :
    e = .returned (.tuple #[.bool (hdone q c), .int .i64 (herr q c)]) ∧ Fd w' g oo tt pa (hcells (hstep q c)) pb ∧ Only g w w' := by
  unfold hdone herr hstep
  by_cases hp : (hmid q c).more
  · rw [if_pos hp, if_pos hp]
    simpa [hp] using h.1 hp
  · rw [if_neg hp, if_neg hp]
    simpa [hp] using h.2 hp
set_option maxRecDepth 4000 in
set_option maxHeartbeats 4000000 in
theorem head_Step_followO (c : Int) (h0 : 0 ≤ c) (h1 : c < 256) (q : HQ) (hok : HOk q) (hw : q.wrong = 0) (ho : q.opn = true) (hl : 0 < q.left) (w : World) (g : Nat) (hg : Fd w g oo tt pa (hcells q) pb) :
    Calls Try.prog 53 #[.pointer (some ⟨g, oo, none⟩), .int .u8 c] w fun e w' => HPostO g oo tt pa pb w (hmid q c) e w' := by
      have hokm := hok_mid q c hok (fun _ _ => hl)
      have HF := Lib.hid (head_followO c h0 h1 q hok hl w g hg)
      have e1 : hmid q c = hfollow q c := by unfold hmid; rw [if_neg (by omega), if_pos ho]
      rw [← e1] at HF
      generalize hmid q c = p at *
      obtain ⟨m, W, a, l, o, e⟩ := q
      obtain ⟨c0, c1, c2, c3, c4, c5, _⟩ := hfd hg
      dsimp only at hw ho
      subst hw ho
      clear e1 hok hg hl
      go_enter Try.func53, Try.ntmps53
      go_wp2_with fail
      refine HF.out.mono ?_
      rintro e w2 ⟨rfl, b2, o2⟩
      clear c0 c1 c2 c3 c4 c5 HF
      obtain ⟨m, W, a, l, o, e⟩ := p
      obtain ⟨c0, c1, c2, c3, c4, c5, fz⟩ := hfd b2
      have f4 := fz (oo + 4)
      have HB := Lib.hid b2
      have HO := Lib.hid o2
      obtain ⟨ha0, ha1, hl0, hl8⟩ := hokm
      dsimp only at ha0 ha1 hl0 hl8
      clear fz b2 o2
      by_cases hbad : e = 0
      · subst hbad
        by_cases hleft : 0 < l
        · go_wp2_with fail
          go_region
          go_wp2_with fail
          go_ret2
          exact ⟨fun _ => ⟨rfl, HB.out, HO.out.drew⟩, fun h => absurd (Or.inr hleft) h⟩
        · have HS := Lib.hid (head_shortest m W a ha0 ha1)
          have HN : Hid (¬ (HQ.mk m W a l o 0).more) := Lib.hid (fun h => by rcases h with h | h; exact h rfl; exact hleft h)
          have b3 := HB.out.put 4 (.bool false)
          have o3 := Lib.hid (HO.out.put (oo + 4) (.bool false))
          rw [hcells_open] at b3
          obtain ⟨w3, hw3⟩ : ∃ w3, w2.setCell ⟨g, oo + 4, none⟩ (.bool false) = w3 := ⟨_, rfl⟩
          rw [hw3] at b3 o3
          have HL := Lib.hid (h3_loadO b3)
          have HB3 := Lib.hid b3
          clear b3 HB HO
          cases hb : hshort m W a with
          | true =>
            rw [hb] at HS
            go_wp2_with ((with_reducible refine is_load 40 rfl ?_); (with_reducible refine wpList_load_run rfl rfl HL.out ?_ ?_); (· rfl))
            refine (HS.out _).mono ?_
            rintro e w4 ⟨rfl, s4⟩
            go_wp2_with fail
            go_ret2
            refine ⟨fun h => absurd h HN.out, fun _ => ⟨by rw [hb]; rfl, HB3.out.on s4, o3.out.more s4⟩⟩
          | false =>
            rw [hb] at HS
            go_wp2_with ((with_reducible refine is_load 40 rfl ?_); (with_reducible refine wpList_load_run rfl rfl HL.out ?_ ?_); (· rfl))
            refine (HS.out _).mono ?_
            rintro e w4 ⟨rfl, s4⟩
            go_wp2_with fail
            go_ret2
            refine ⟨fun h => absurd h HN.out, fun _ => ⟨by rw [hb]; rfl, HB3.out.on s4, o3.out.more s4⟩⟩
      · have HN := Lib.hid hbad
        go_wp2_with fail
        go_region
        go_wp2_with fail
        go_ret2
        exact ⟨fun _ => ⟨rfl, HB.out, HO.out.drew⟩, fun h => absurd (Or.inl HN.out) h⟩
set_option maxRecDepth 4000 in
set_option maxHeartbeats 4000000 in
theorem head_Step_beginO (c : Int) (h0 : 0 ≤ c) (h1 : c < 256) (q : HQ) (hok : HOk q) (hw : q.wrong = 0) (ho : q.opn = false) (w : World) (g : Nat) (hg : Fd w g oo tt pa (hcells q) pb) :
    Calls Try.prog 53 #[.pointer (some ⟨g, oo, none⟩), .int .u8 c] w fun e w' => HPostO g oo tt pa pb w (hmid q c) e w' := by
      have hokm := hok_mid q c hok (fun _ h => by rw [ho] at h; cases h)
      have HF := Lib.hid (head_beginO c h0 h1 q w g hg)
      have e1 : hmid q c = hbegin c := by unfold hmid; rw [if_neg (by omega), if_neg (by rw [ho]; decide)]
      rw [← e1] at HF
      generalize hmid q c = p at *
      obtain ⟨m, W, a, l, o, e⟩ := q
      obtain ⟨c0, c1, c2, c3, c4, c5, _⟩ := hfd hg
      dsimp only at hw ho
      subst hw ho
      clear e1 hok hg 
      go_enter Try.func53, Try.ntmps53
      go_wp2_with fail
      refine HF.out.mono ?_
      rintro e w2 ⟨rfl, b2, o2⟩
      clear c0 c1 c2 c3 c4 c5 HF
      obtain ⟨m, W, a, l, o, e⟩ := p
      obtain ⟨c0, c1, c2, c3, c4, c5, fz⟩ := hfd b2
      have f4 := fz (oo + 4)
      have HB := Lib.hid b2
      have HO := Lib.hid o2
      obtain ⟨ha0, ha1, hl0, hl8⟩ := hokm
      dsimp only at ha0 ha1 hl0 hl8
      clear fz b2 o2
      by_cases hbad : e = 0
      · subst hbad
        by_cases hleft : 0 < l
        · go_wp2_with fail
          go_region
          go_wp2_with fail
          go_ret2
          exact ⟨fun _ => ⟨rfl, HB.out, HO.out.drew⟩, fun h => absurd (Or.inr hleft) h⟩
        · have HS := Lib.hid (head_shortest m W a ha0 ha1)
          have HN : Hid (¬ (HQ.mk m W a l o 0).more) := Lib.hid (fun h => by rcases h with h | h; exact h rfl; exact hleft h)
          have b3 := HB.out.put 4 (.bool false)
          have o3 := Lib.hid (HO.out.put (oo + 4) (.bool false))
          rw [hcells_open] at b3
          obtain ⟨w3, hw3⟩ : ∃ w3, w2.setCell ⟨g, oo + 4, none⟩ (.bool false) = w3 := ⟨_, rfl⟩
          rw [hw3] at b3 o3
          have HL := Lib.hid (h3_loadO b3)
          have HB3 := Lib.hid b3
          clear b3 HB HO
          cases hb : hshort m W a with
          | true =>
            rw [hb] at HS
            go_wp2_with ((with_reducible refine is_load 40 rfl ?_); (with_reducible refine wpList_load_run rfl rfl HL.out ?_ ?_); (· rfl))
            refine (HS.out _).mono ?_
            rintro e w4 ⟨rfl, s4⟩
            go_wp2_with fail
            go_ret2
            refine ⟨fun h => absurd h HN.out, fun _ => ⟨by rw [hb]; rfl, HB3.out.on s4, o3.out.more s4⟩⟩
          | false =>
            rw [hb] at HS
            go_wp2_with ((with_reducible refine is_load 40 rfl ?_); (with_reducible refine wpList_load_run rfl rfl HL.out ?_ ?_); (· rfl))
            refine (HS.out _).mono ?_
            rintro e w4 ⟨rfl, s4⟩
            go_wp2_with fail
            go_ret2
            refine ⟨fun h => absurd h HN.out, fun _ => ⟨by rw [hb]; rfl, HB3.out.on s4, o3.out.more s4⟩⟩
      · have HN := Lib.hid hbad
        go_wp2_with fail
        go_region
        go_wp2_with fail
        go_ret2
        exact ⟨fun _ => ⟨rfl, HB.out, HO.out.drew⟩, fun h => absurd (Or.inl HN.out) h⟩
set_option maxHeartbeats 4000000 in
theorem head_Step_wrongO (c : Int) (q : HQ) (hw : q.wrong ≠ 0) (w : World) (g : Nat) (hg : Fd w g oo tt pa (hcells q) pb) :
    Calls Try.prog 53 #[.pointer (some ⟨g, oo, none⟩), .int .u8 c] w fun e w' => HPostO g oo tt pa pb w (hmid q c) e w' := by
  have e1 : hmid q c = q := by unfold hmid; rw [if_pos hw]
  rw [e1]
  obtain ⟨m, W, a, l, o, e⟩ := q
  obtain ⟨c0, c1, c2, c3, c4, c5, _⟩ := hfd hg
  dsimp only at hw
  have HN := Lib.hid hw
  have HB := Lib.hid hg
  clear e1 hg
  go_enter Try.func53, Try.ntmps53
  go_wp2_with fail
  go_region
  go_wp2_with fail
  go_ret2
  exact ⟨fun _ => ⟨rfl, HB.out, (Only.refl _ _).drew⟩, fun h => absurd (Or.inl HN.out) h⟩
theorem head_StepP (c : Int) (h0 : 0 ≤ c) (h1 : c < 256) (q : HQ) (hok : HOk q) (hl : q.wrong = 0 → q.opn = true → 0 < q.left) (w : World) (g : Nat) (hg : Fd w g oo tt pa (hcells q) pb) :
    Calls Try.prog 53 #[.pointer (some ⟨g, oo, none⟩), .int .u8 c] w fun e w' => HPostO g oo tt pa pb w (hmid q c) e w' := by
  by_cases hw : q.wrong = 0
  · cases ho : q.opn with
    | true => exact head_Step_followO c h0 h1 q hok hw ho (hl hw ho) w g hg
    | false => exact head_Step_beginO c h0 h1 q hok hw ho w g hg
  · exact head_Step_wrongO c q hw w g hg
theorem head_StepO (c : Int) (h0 : 0 ≤ c) (h1 : c < 256) (q : HQ) (hok : HOk q) (hl : q.wrong = 0 → q.opn = true → 0 < q.left) (w : World) (g : Nat) (hg : Fd w g oo tt pa (hcells q) pb) :
    Calls Try.prog 53 #[.pointer (some ⟨g, oo, none⟩), .int .u8 c] w fun e w' => e = .returned (.tuple #[.bool (hdone q c), .int .i64 (herr q c)]) ∧ Fd w' g oo tt pa (hcells (hstep q c)) pb ∧ Only g w w' :=
  (head_StepP c h0 h1 q hok hl w g hg).mono fun _ _ h => h.out
/-- A whole head that ended. -/
theorem head_Head_doneO (q : HQ) (ho : q.opn = false) (w : World) (g : Nat) (hg : Fd w g oo tt pa (hcells q) pb) :
    Calls Try.prog 49 #[.pointer (some ⟨g, oo, none⟩)] w fun e w' => e = .returned (.agg (h3cells q.major q.width q.arg)) ∧ Below w.heap.size w w' := by
  have HZ := h3_zero
  have b1 : Blk (w.alloc (.cells (h3cells 0 0 0) 40)) w.heap.size 40 (h3cells 0 0 0) := Blk.fresh _ _ _
  have s1 : Below w.heap.size w (w.alloc (.cells (h3cells 0 0 0) 40)) := below_alloc _ _
  have hg1 := hg.on s1
  obtain ⟨w1, hw1⟩ : ∃ w1, w.alloc (.cells (h3cells 0 0 0) 40) = w1 := ⟨_, rfl⟩
  rw [hw1] at b1 s1 hg1
  have HL := Lib.hid (h3_loadO hg1)
  have HS := Lib.hid (run_store_all (P := Try.prog) (ty := 40) (c' := h3cells q.major q.width q.arg) b1 (by kernel_rfl) rfl (h3_one _ _ _))
  have b2 := Lib.hid (b1.setRow (h3cells q.major q.width q.arg))
  have s2 := Lib.hid (below_row s1 (Nat.le_refl _) (h3cells q.major q.width q.arg))
  obtain ⟨m, W, a, l, o, e⟩ := q
  obtain ⟨c0, c1, c2, c3, c4, c5, _⟩ := hfd hg1
  dsimp only at ho HL HS b2 s2 ⊢
  subst ho
  clear b1 s1 hg hg1
  go_enter Try.func49, Try.ntmps49
  go_wp2_with (first | ((with_reducible refine is_load 40 rfl ?_); (with_reducible refine wpList_load_run rfl rfl HL.out ?_ ?_); (· rfl)) | ((with_reducible refine is_store 40 rfl ?_); (with_reducible refine wpList_store_run rfl rfl HS.out ?_ ?_ ?_); (· rfl); (· rfl)))
  exact bodyPost_ret (results_blk rfl _ rfl b2.out Try.underlying40 rfl hinfo_head) rfl ⟨rfl, s2.out⟩
end
end Go.Proofs.Ytchhbcmkhbfpoaa

/- Package utf: a walk that lies in another struct. -/
namespace Go.Proofs.Ytchhbcmkhbfpoaa
open Go.RowKit

section
variable {oo : Nat} {tt : TypeId} {pa pb : Array Value}
theorem ufd {w : World} {g : Nat} {q : UQ} (h : Fd w g oo tt pa (ucells q) pb) :
    w.cell? ⟨g, oo, none⟩ = some (.int .i64 q.left) ∧ w.cell? ⟨g, oo + 1, none⟩ = some (.int .u8 q.lo) ∧ w.cell? ⟨g, oo + 2, none⟩ = some (.int .u8 q.hi) ∧ w.cell? ⟨g, oo + 3, none⟩ = some (.bool q.wr) ∧ (∀ i, w.frozen? ⟨g, i, none⟩ = false) :=
  ⟨h.cell 0, h.cell 1, h.cell 2, h.cell 3, h.free⟩
theorem utf_begin_someO (c : Int) (n : Nat) (l : Int) (h : Int) (hn : umore c = some n) (w : World) (g : Nat) (hg : Fd w g oo tt pa (ucells ⟨0, l, h, false⟩) pb) :
    Calls Try.prog 76 #[.pointer (some ⟨g, oo, none⟩), .int .u8 c] w fun e w' => e = .returned (.bool true) ∧ Fd w' g oo tt pa (ucells ⟨n, ulo c, uhi c, false⟩) pb ∧ Only g w w' := by
  obtain ⟨c0, c1, c2, c3, fz⟩ := ufd hg
  have f0 := fz oo
  have f1 := fz (oo + 1)
  have f2 := fz (oo + 2)
  have z : ((0 : Nat) : Int) = 0 := rfl
  simp only [z] at c0
  clear fz c3 z
  rcases umore_some hn with ⟨rfl, r1, r2⟩ | ⟨rfl, r1, r2⟩ | ⟨rfl, r1, r2⟩ | ⟨rfl, r1⟩
  · go_enter Try.func76, Try.ntmps76
    go_wp2_with (go_at_call 88; refine (utf_bounds _ _).mono ?_; rintro e w' ⟨rfl, rfl⟩)
    go_ret
    exact ⟨rfl, ((((hg.put 0 (.int .i64 1)).put 0 (.int .i64 2)).put 0 (.int .i64 3)).put 1 (.int .u8 (ulo c))).put 2 (.int .u8 (uhi c)), (((((Only.refl g w).put (oo + 0) _).put (oo + 0) _).put (oo + 0) _).put (oo + 1) _).put (oo + 2) _⟩
  · go_enter Try.func76, Try.ntmps76
    go_wp2_with (go_at_call 88; refine (utf_bounds _ _).mono ?_; rintro e w' ⟨rfl, rfl⟩)
    go_ret
    exact ⟨rfl, (((hg.put 0 (.int .i64 1)).put 0 (.int .i64 2)).put 1 (.int .u8 (ulo c))).put 2 (.int .u8 (uhi c)), ((((Only.refl g w).put (oo + 0) _).put (oo + 0) _).put (oo + 1) _).put (oo + 2) _⟩
  · go_enter Try.func76, Try.ntmps76
    go_wp2_with (go_at_call 88; refine (utf_bounds _ _).mono ?_; rintro e w' ⟨rfl, rfl⟩)
    go_ret
    exact ⟨rfl, ((hg.put 0 (.int .i64 1)).put 1 (.int .u8 (ulo c))).put 2 (.int .u8 (uhi c)), (((Only.refl g w).put (oo + 0) _).put (oo + 1) _).put (oo + 2) _⟩
  · go_enter Try.func76, Try.ntmps76
    go_wp2_with (go_at_call 88; refine (utf_bounds _ _).mono ?_; rintro e w' ⟨rfl, rfl⟩)
    go_ret
    exact ⟨rfl, (hg.put 1 (.int .u8 (ulo c))).put 2 (.int .u8 (uhi c)), ((Only.refl g w).put (oo + 1) _).put (oo + 2) _⟩
theorem utf_begin_noneO (c : Int) (hn : umore c = none) (w : World) (g : Nat) :
    Calls Try.prog 76 #[.pointer (some ⟨g, oo, none⟩), .int .u8 c] w fun e w' => e = .returned (.bool false) ∧ w = w' := by
  obtain ⟨r1, r2, r3, r4⟩ := umore_none hn
  go_enter Try.func76, Try.ntmps76
  go_wp2
  all_goals go_ret
  all_goals exact ⟨rfl, rfl⟩
theorem utf_follow_noO (c l h : Int) (n : Nat) (hn : c < l ∨ h < c) (w : World) (g : Nat) (hg : Fd w g oo tt pa (ucells ⟨n, l, h, false⟩) pb) :
    Calls Try.prog 77 #[.pointer (some ⟨g, oo, none⟩), .int .u8 c] w fun e w' => e = .returned (.bool false) ∧ w = w' := by
  obtain ⟨c0, c1, c2, c3, fz⟩ := ufd hg
  dsimp only at c0 c1 c2 c3
  clear fz
  by_cases hcl : c < l
  · go_enter Try.func77, Try.ntmps77
    go_wp2
    go_ret
    exact ⟨rfl, rfl⟩
  · have hch : h < c := by omega
    go_enter Try.func77, Try.ntmps77
    go_wp2
    go_ret
    exact ⟨rfl, rfl⟩
theorem utf_follow_yesO (c l h : Int) (n : Nat) (h0 : ¬ c < l) (h1 : ¬ h < c) (hm : n < 100) (w : World) (g : Nat) (hg : Fd w g oo tt pa (ucells ⟨n + 1, l, h, false⟩) pb) :
    Calls Try.prog 77 #[.pointer (some ⟨g, oo, none⟩), .int .u8 c] w fun e w' => e = .returned (.bool true) ∧ Fd w' g oo tt pa (ucells ⟨n, 128, 191, false⟩) pb ∧ Only g w w' := by
  obtain ⟨c0, c1, c2, c3, fz⟩ := ufd hg
  dsimp only at c0 c1 c2 c3
  have f0 := fz oo
  have f1 := fz (oo + 1)
  have f2 := fz (oo + 2)
  have z : ((n + 1 : Nat) : Int) = (n : Int) + 1 := by simp
  rw [z] at c0
  clear fz z c3
  go_enter Try.func77, Try.ntmps77
  go_wp2
  go_ret
  exact ⟨rfl, ((hg.put 0 (.int .i64 n)).put 1 (.int .u8 128)).put 2 (.int .u8 191), (((Only.refl g w).put (oo + 0) _).put (oo + 1) _).put (oo + 2) _⟩
theorem utf_doneO (q : UQ) (w : World) (g : Nat) (hg : Fd w g oo tt pa (ucells q) pb) :
    Calls Try.prog 61 #[.pointer (some ⟨g, oo, none⟩)] w fun e w' => e = .returned (.bool (udone q)) ∧ w = w' := by
  obtain ⟨n, l, h, wr⟩ := q
  obtain ⟨c0, c1, c2, c3, fz⟩ := ufd hg
  dsimp only at c0 c1 c2 c3
  clear fz c1 c2
  cases wr with
  | true =>
    go_enter Try.func61, Try.ntmps61
    go_wp2
    go_ret
    exact ⟨rfl, rfl⟩
  | false =>
    have e : udone ⟨n, l, h, false⟩ = ((n : Int) == 0) := by
      unfold udone
      cases n with
      | zero => rfl
      | succ n => simp; omega
    rw [e]
    go_enter Try.func61, Try.ntmps61
    go_wp2
    go_ret
    exact ⟨rfl, rfl⟩
theorem utf_resetO (q : UQ) (w : World) (g : Nat) (hg : Fd w g oo tt pa (ucells q) pb) :
    Calls Try.prog 69 #[.pointer (some ⟨g, oo, none⟩)] w fun e w' => e = .returned (.tuple #[]) ∧ Fd w' g oo tt pa (ucells uq0) pb ∧ Only g w w' := by
  obtain ⟨c0, c1, c2, c3, fz⟩ := ufd hg
  have f0 := fz oo
  have f1 := fz (oo + 1)
  have f2 := fz (oo + 2)
  have f3 := fz (oo + 3)
  clear fz
  go_enter Try.func69, Try.ntmps69
  go_wp2
  go_end0
  exact ⟨rfl, (((hg.put 0 (.int .i64 0)).put 1 (.int .u8 0)).put 2 (.int .u8 0)).put 3 (.bool false), ((((Only.refl g w).put (oo + 0) _).put (oo + 1) _).put (oo + 2) _).put (oo + 3) _⟩
theorem utf_stepO (q : UQ) (c : Int) (hn : q.left < 100) (w : World) (g : Nat) (hg : Fd w g oo tt pa (ucells q) pb) :
    Calls Try.prog 60 #[.pointer (some ⟨g, oo, none⟩), .int .u8 c] w fun e w' => e = .returned (.bool (!(ustep q c).wr)) ∧ Fd w' g oo tt pa (ucells (ustep q c)) pb ∧ Only g w w' := by
  obtain ⟨n, l, h, wr⟩ := q
  obtain ⟨c0, c1, c2, c3, fz⟩ := ufd hg
  dsimp only at c0 c1 c2 c3 hn
  have f3 := fz (oo + 3)
  clear fz
  cases wr with
  | true =>
    have e : ustep ⟨n, l, h, true⟩ c = ⟨n, l, h, true⟩ := rfl
    rw [e]
    clear e
    go_enter Try.func60, Try.ntmps60
    go_wp2
    go_ret
    exact ⟨rfl, hg, Only.refl _ _⟩
  | false =>
    cases n with
    | zero =>
      cases hm : umore c with
      | none =>
        have e : ustep ⟨0, l, h, false⟩ c = ⟨0, l, h, true⟩ := by unfold ustep; rw [if_neg (by simp), if_pos rfl, hm]
        rw [e]
        clear e
        have z : ((0 : Nat) : Int) = 0 := rfl
        rw [z] at c0
        clear z c1 c2
        have HB := Lib.hid (utf_begin_noneO (oo := oo) c hm)
        have HG := Lib.hid hg
        clear hg
        go_enter Try.func60, Try.ntmps60
        go_wp2_with (go_at_call 76; refine (HB.out _ _).mono ?_; rintro e w' ⟨rfl, rfl⟩)
        go_ret
        exact ⟨rfl, HG.out.put 3 (.bool true), (Only.refl _ _).put (oo + 3) _⟩
      | some n =>
        have e : ustep ⟨0, l, h, false⟩ c = ⟨n, ulo c, uhi c, false⟩ := by unfold ustep; rw [if_neg (by simp), if_pos rfl, hm]
        rw [e]
        clear e
        have z : ((0 : Nat) : Int) = 0 := rfl
        rw [z] at c0
        clear z c1 c2
        have HB := Lib.hid (utf_begin_someO c n l h hm w g hg)
        clear hg
        go_enter Try.func60, Try.ntmps60
        go_wp2_with fail
        refine HB.out.mono ?_
        rintro e w1 ⟨rfl, b1, o1⟩
        have d3 : w1.cell? ⟨g, oo + 3, none⟩ = some (.bool false) := b1.cell 3
        have e3 := b1.free (oo + 3)
        have B1 := Lib.hid b1
        have O1 := Lib.hid o1
        clear b1 o1 HB c0 c3 f3
        go_wp2
        go_ret
        exact ⟨rfl, B1.out.put 3 (.bool false), O1.out.put (oo + 3) _⟩
    | succ n =>
      by_cases hm : c < l ∨ h < c
      · have e : ustep ⟨n + 1, l, h, false⟩ c = ⟨n + 1, l, h, true⟩ := by unfold ustep; rw [if_neg (by simp), if_neg (by simp), if_pos hm]
        rw [e]
        clear e c1 c2
        have z : (((n + 1 : Nat) : Int) == 0) = false := by rw [beq_eq_false_iff_ne]; omega
        generalize ((n + 1 : Nat) : Int) = N at *
        have HB := Lib.hid (utf_follow_noO c l h (n + 1) hm w g hg)
        have HG := Lib.hid hg
        clear hg
        go_enter Try.func60, Try.ntmps60
        go_wp2_with (go_at_call 77; refine HB.out.mono ?_; rintro e w' ⟨rfl, rfl⟩)
        go_ret
        exact ⟨rfl, HG.out.put 3 (.bool true), (Only.refl _ _).put (oo + 3) _⟩
      · have e : ustep ⟨n + 1, l, h, false⟩ c = ⟨n, 128, 191, false⟩ := by unfold ustep; rw [if_neg (by simp), if_neg (by simp), if_neg hm]; rfl
        rw [e]
        clear e c1 c2
        have z : (((n + 1 : Nat) : Int) == 0) = false := by rw [beq_eq_false_iff_ne]; omega
        have HB := Lib.hid (utf_follow_yesO c l h n (by omega) (by omega) (by omega) w g hg)
        generalize ((n + 1 : Nat) : Int) = N at *
        clear hg hm
        go_enter Try.func60, Try.ntmps60
        go_wp2_with fail
        refine HB.out.mono ?_
        rintro e w1 ⟨rfl, b1, o1⟩
        have d3 : w1.cell? ⟨g, oo + 3, none⟩ = some (.bool false) := b1.cell 3
        have e3 := b1.free (oo + 3)
        have B1 := Lib.hid b1
        have O1 := Lib.hid o1
        clear b1 o1 HB c0 c3 f3
        go_wp2
        go_ret
        exact ⟨rfl, B1.out.put 3 (.bool false), O1.out.put (oo + 3) _⟩
end
end Go.Proofs.Ytchhbcmkhbfpoaa

/- Package auto: an automaton in memory; deep, Len, Done, Cap, walkOn. -/
namespace Go.Proofs.Ytchhbcmkhbfpoaa
open Go.RowKit

/-- What an automaton holds. -/
structure AC where
  D : Int
  K : Int
  S : Int
  s : Nat
  q : HQ
  text : Int
  u : UQ
  handed : Int
  done : Bool
  wrong : Int
def AC.cells (x : AC) : Array Value := #[.int .i64 x.D, .int .i64 x.K, .int .i64 x.S, .pointer (some ⟨x.s, 0, none⟩), .int .i64 x.q.major, .int .i64 x.q.width, .int .u64 x.q.arg, .int .i64 x.q.left, .bool x.q.opn, .int .i64 x.q.wrong, .int .u64 x.text, .int .i64 x.u.left, .int .u8 x.u.lo, .int .u8 x.u.hi, .bool x.u.wr, .int .i64 x.handed, .bool x.done, .int .i64 x.wrong]
def AC.h0 (x : AC) : Array Value := #[.int .i64 x.D, .int .i64 x.K, .int .i64 x.S, .pointer (some ⟨x.s, 0, none⟩)]
def AC.h1 (x : AC) : Array Value := #[.int .u64 x.text, .int .i64 x.u.left, .int .u8 x.u.lo, .int .u8 x.u.hi, .bool x.u.wr, .int .i64 x.handed, .bool x.done, .int .i64 x.wrong]
def AC.u0 (x : AC) : Array Value := #[.int .i64 x.D, .int .i64 x.K, .int .i64 x.S, .pointer (some ⟨x.s, 0, none⟩), .int .i64 x.q.major, .int .i64 x.q.width, .int .u64 x.q.arg, .int .i64 x.q.left, .bool x.q.opn, .int .i64 x.q.wrong, .int .u64 x.text]
def AC.u1 (x : AC) : Array Value := #[.int .i64 x.handed, .bool x.done, .int .i64 x.wrong]
theorem AC.at_head (x : AC) : x.h0 ++ hcells x.q ++ x.h1 = x.cells := rfl
theorem AC.at_walk (x : AC) : x.u0 ++ ucells x.u ++ x.u1 = x.cells := rfl
section
variable {w w' : World} {a : Nat} {x : AC}
theorem au_head (h : Blk w a 73 x.cells) : Fd w a 4 73 x.h0 (hcells x.q) x.h1 := ⟨by rw [x.at_head]; exact h, rfl⟩
theorem au_head' {q : HQ} (h : Fd w a 4 73 x.h0 (hcells q) x.h1) : Blk w a 73 { x with q := q }.cells := by rw [← AC.at_head]; exact h.1
theorem au_walk (h : Blk w a 73 x.cells) : Fd w a 11 73 x.u0 (ucells x.u) x.u1 := ⟨by rw [x.at_walk]; exact h, rfl⟩
theorem au_walk' {u : UQ} (h : Fd w a 11 73 x.u0 (ucells u) x.u1) : Blk w a 73 { x with u := u }.cells := by rw [← AC.at_walk]; exact h.1
/-- The cells that the functions read. -/
theorem au_cells (h : Blk w a 73 x.cells) : w.cell? ⟨a, 0, none⟩ = some (.int .i64 x.D) ∧ w.cell? ⟨a, 1, none⟩ = some (.int .i64 x.K) ∧ w.cell? ⟨a, 2, none⟩ = some (.int .i64 x.S) ∧ w.cell? ⟨a, 3, none⟩ = some (.pointer (some ⟨x.s, 0, none⟩)) ∧ w.cell? ⟨a, 10, none⟩ = some (.int .u64 x.text) ∧ w.cell? ⟨a, 15, none⟩ = some (.int .i64 x.handed) ∧ w.cell? ⟨a, 16, none⟩ = some (.bool x.done) ∧ w.cell? ⟨a, 17, none⟩ = some (.int .i64 x.wrong) ∧ ∀ i, w.frozen? ⟨a, i, none⟩ = false :=
  ⟨h.cell 0, h.cell 1, h.cell 2, h.cell 3, h.cell 10, h.cell 15, h.cell 16, h.cell 17, h.free⟩
end
def SA (own : Nat → Nat) (a j : Nat) : Prop := j = a ∨ Mine own j
/-- An automaton in block a, st open in it. -/
structure Aut (w : World) (own : Nat → Nat) (a f D K : Nat) (st : List Fr) (x : AC) : Prop where
  blk : Blk w a 73 x.cells
  stk : StkR w own x.s f D K st
  oa : own a = 0
  hD : x.D = D
  hK : x.K = K
  lo : ∀ j, own j ≠ 0 → j < w.heap.size
/-- Whatever is open. -/
structure AutW (w : World) (own : Nat → Nat) (a f D K : Nat) (x : AC) : Prop where
  blk : Blk w a 73 x.cells
  stk : StkW w own x.s f D K
  oa : own a = 0
  lo : ∀ j, own j ≠ 0 → j < w.heap.size
section
variable {w w' : World} {own : Nat → Nat} {a f D K : Nat} {st : List Fr} {x : AC}
theorem Aut.weak (h : Aut w own a f D K st x) : AutW w own a f D K x := ⟨h.blk, h.stk.weak, h.oa, h.lo⟩
theorem Aut.on (h : Aut w own a f D K st x) (hb : Below w.heap.size w w') : Aut w' own a f D K st x := ⟨h.blk.on hb, h.stk.on hb, h.oa, h.hD, h.hK, fun j hj => Nat.lt_of_lt_of_le (h.lo j hj) hb.size⟩
theorem AutW.on (h : AutW w own a f D K x) (hb : Below w.heap.size w w') : AutW w' own a f D K x := ⟨h.blk.on hb, h.stk.on hb, h.oa, fun j hj => Nat.lt_of_lt_of_le (h.lo j hj) hb.size⟩
theorem Aut.ofA (h : Aut w own a f D K st x) (ho : Only a w w') {x' : AC} (hb : Blk w' a 73 x'.cells) (hs : x'.s = x.s) (hD : x'.D = x.D) (hK : x'.K = x.K) : Aut w' own a f D K st x' :=
  ⟨hb, by rw [hs]; exact h.stk.wi (.ofOnly (S := fun j => j = a) ho rfl) (fun _ hi => hi ▸ h.oa), h.oa, hD.trans h.hD, hK.trans h.hK, fun j hj => Nat.lt_of_lt_of_le (h.lo j hj) ho.size⟩
theorem AutW.ofA (h : AutW w own a f D K x) (ho : Only a w w') {x' : AC} (hb : Blk w' a 73 x'.cells) (hs : x'.s = x.s) : AutW w' own a f D K x' :=
  ⟨hb, by rw [hs]; exact h.stk.wi (.ofOnly (S := fun j => j = a) ho rfl) (fun _ hi => hi ▸ h.oa), h.oa, fun j hj => Nat.lt_of_lt_of_le (h.lo j hj) ho.size⟩
theorem Aut.ofS (h : Aut w own a f D K st x) (hw : Wi (Mine own) w w') {st' : List Fr} (hs : StkR w' own x.s f D K st') : Aut w' own a f D K st' x :=
  ⟨hw.blk h.blk (fun hm => hm h.oa), hs, h.oa, h.hD, h.hK, fun j hj => Nat.lt_of_lt_of_le (h.lo j hj) hw.size⟩
theorem Aut.ofW (h : Aut w own a f D K st x) (hw : Wi (Mine own) w w') (hs : StkW w' own x.s f D K) : AutW w' own a f D K x :=
  ⟨hw.blk h.blk (fun hm => hm h.oa), hs, h.oa, fun j hj => Nat.lt_of_lt_of_le (h.lo j hj) hw.size⟩
theorem Aut.fresh (h : Aut w own a f D K st x) {j : Nat} (hj : w.heap.size ≤ j) : ¬ Mine own j := fun hm => by have := h.lo j hm; omega
theorem Aut.freshA (h : Aut w own a f D K st x) {j : Nat} (hj : w.heap.size ≤ j) : ¬ SA own a j := fun hm => by
  rcases hm with rfl | hm
  · have := h.blk.lt; omega
  · exact h.fresh hj hm
theorem Aut.wi {T : Nat → Prop} (h : Aut w own a f D K st x) (hw : Wi T w w') (hT : ∀ i, T i → ¬ SA own a i) : Aut w' own a f D K st x :=
  ⟨hw.blk h.blk (fun ht => hT _ ht (.inl rfl)), h.stk.wi hw (fun i hi => Classical.byContradiction fun hn => hT i hi (.inr hn)), h.oa, h.hD, h.hK, fun j hj => Nat.lt_of_lt_of_le (h.lo j hj) hw.size⟩
theorem AutW.wi {T : Nat → Prop} (h : AutW w own a f D K x) (hw : Wi T w w') (hT : ∀ i, T i → ¬ SA own a i) : AutW w' own a f D K x :=
  ⟨hw.blk h.blk (fun ht => hT _ ht (.inl rfl)), h.stk.wi hw (fun i hi => Classical.byContradiction fun hn => hT i hi (.inr hn)), h.oa, fun j hj => Nat.lt_of_lt_of_le (h.lo j hj) hw.size⟩
theorem Aut.only {r : Nat} (h : Aut w own a f D K st x) (ho : Only r w w') (hr : ¬ SA own a r) : Aut w' own a f D K st x := h.wi (.ofOnly (S := fun j => j = r) ho rfl) (fun _ hi => hi ▸ hr)
theorem AutW.only {r : Nat} (h : AutW w own a f D K x) (ho : Only r w w') (hr : ¬ SA own a r) : AutW w' own a f D K x := h.wi (.ofOnly (S := fun j => j = r) ho rfl) (fun _ hi => hi ▸ hr)
theorem Wi.fresh {S : Nat → Prop} {w'' : World} {r : Nat} (h : Wi S w w') (ho : Only r w' w'') (hr : w.heap.size ≤ r) : Wi S w w'' :=
  ⟨ho.os.trans h.os, ho.tape.trans h.tape, ho.output.trans h.output, Nat.le_trans h.size ho.size, fun i hi a => (ho.block i (Nat.lt_of_lt_of_le hi h.size) (fun e => by injection e with e; omega)).trans (h.block i hi a)⟩
theorem only_row {r : Nat} (w : World) (cs : Array Value) : Only r w (w.setRow r cs) := (Only.refl r w).setRow cs
theorem Wi.sa (h : Wi (Mine own) w w') : Wi (SA own a) w w' := h.mono fun _ hi => .inr hi
theorem Wi.saO (h : Only a w w') : Wi (SA own a) w w' := .ofOnly h (.inl rfl)
theorem Aut.lt (h : Aut w own a f D K st x) : a < w.heap.size := h.blk.lt
end

theorem auto_deep (w : World) (own : Nat → Nat) (a f D K : Nat) (st : List Fr) (x : AC) (h : Aut w own a f D K st x) :
    Calls Try.prog 51 #[.pointer (some ⟨a, 0, none⟩)] w fun e w' => e = .returned (.int .i64 (st.length + 1)) ∧ w' = w := by
  obtain ⟨_, _, _, c3, _⟩ := au_cells h.blk
  have HD := Lib.hid (frame_Depth w own x.s f D K st h.stk)
  have hl : st.length ≤ 64 := by obtain ⟨fs, _, q, _⟩ := h.stk; exact Nat.le_trans q.hn q.hl
  clear h
  generalize x.s = s at *
  generalize hN : (st.length : Int) = N at *
  have hN0 : 0 ≤ N := by omega
  have hN1 : N ≤ 64 := by omega
  clear hN hl
  go_enter Try.func51, Try.ntmps51
  go_wp2_with fail
  refine HD.out.mono ?_
  rintro e w' ⟨rfl, rfl⟩
  go_wp2_with fail
  go_ret
  exact ⟨rfl, rfl⟩
theorem auto_Len (w : World) (a : Nat) (x : AC) (h : Blk w a 73 x.cells) :
    Calls Try.prog 13 #[.pointer (some ⟨a, 0, none⟩)] w fun e w' => e = .returned (.int .i64 x.handed) ∧ w' = w := by
  obtain ⟨_, _, _, _, _, c15, _⟩ := au_cells h
  clear h
  go_enter Try.func13, Try.ntmps13
  go_wp2_with fail
  go_ret
  exact ⟨rfl, rfl⟩
theorem auto_Done (w : World) (a : Nat) (x : AC) (h : Blk w a 73 x.cells) :
    Calls Try.prog 14 #[.pointer (some ⟨a, 0, none⟩)] w fun e w' => e = .returned (.bool (x.done && x.wrong == 0)) ∧ w' = w := by
  obtain ⟨_, _, _, _, _, _, c16, c17, _⟩ := au_cells h
  clear h
  generalize x.done = d at *
  generalize x.wrong = e at *
  cases d
  · go_enter Try.func14, Try.ntmps14
    go_wp2_with fail
    go_ret
    exact ⟨rfl, rfl⟩
  · go_enter Try.func14, Try.ntmps14
    go_wp2_with fail
    go_ret
    exact ⟨by simp, rfl⟩
theorem auto_Cap (w : World) (own : Nat → Nat) (a f D K : Nat) (x : AC) (h : AutW w own a f D K x) :
    Calls Try.prog 10 #[.pointer (some ⟨a, 0, none⟩)] w fun e w' => e = .returned (.int .i64 (D * (2 * K))) ∧ w' = w := by
  obtain ⟨_, _, _, c3, _⟩ := au_cells h.blk
  have HC := Lib.hid (frame_Cap w own x.s f D K h.stk)
  clear h
  generalize x.s = s at *
  generalize (D : Int) * (2 * (K : Int)) = N at *
  go_enter Try.func10, Try.ntmps10
  go_wp2_with fail
  refine HC.out.mono ?_
  rintro e w' ⟨rfl, rfl⟩
  go_wp2_with fail
  go_ret
  exact ⟨rfl, rfl⟩
/-- May the text be in UTF-8 with the byte, and is it, if that is the last one? -/
def won (u : UQ) (text c : Int) : Bool := !(ustep u c).wr && (decide (0 < text) || udone (ustep u c))
set_option maxRecDepth 4000 in
theorem auto_walkOn (w : World) (a : Nat) (x : AC) (c : Int) (h : Blk w a 73 x.cells) (hu : x.u.left < 100) :
    Calls Try.prog 50 #[.pointer (some ⟨a, 0, none⟩), .int .u8 c] w fun e w' => e = .returned (.bool (won x.u x.text c)) ∧ Blk w' a 73 { x with u := ustep x.u c }.cells ∧ Only a w w' := by
  have HS := Lib.hid (utf_stepO x.u c hu w a (au_walk h))
  have HX : Hid (∀ w', Fd w' a 11 73 x.u0 (ucells (ustep x.u c)) x.u1 → w'.cell? ⟨a, 10, none⟩ = some (.int .u64 x.text) ∧ Blk w' a 73 { x with u := ustep x.u c }.cells ∧ Calls Try.prog 61 #[.pointer (some ⟨a, 11, none⟩)] w' fun e w'' => e = .returned (.bool (udone (ustep x.u c))) ∧ w' = w'') := fun w' hf => by
    have hb := au_walk' hf
    exact ⟨(au_cells hb).2.2.2.2.1, hb, utf_doneO (ustep x.u c) w' a hf⟩
  unfold won
  generalize x.u0 = u0 at *
  generalize x.u1 = u1 at *
  generalize (AC.cells { x with u := ustep x.u c }) = cs at *
  generalize ustep x.u c = v at *
  generalize udone v = d at *
  generalize x.text = n at *
  cases hw : v.wr with
  | true =>
    rw [hw] at HS
    clear h
    go_enter Try.func50, Try.ntmps50
    go_wp2_with fail
    refine HS.out.mono ?_
    rintro e w1 ⟨rfl, b1, o1⟩
    obtain ⟨_, q2, _⟩ := HX.out w1 b1
    have H2 := Lib.hid q2
    have H3 := Lib.hid o1
    clear b1 o1 q2
    go_wp2_with fail
    go_ret
    exact ⟨rfl, H2.out, H3.out⟩
  | false =>
    rw [hw] at HS
    clear h
    by_cases hn : 0 < n
    · go_enter Try.func50, Try.ntmps50
      go_wp2_with fail
      refine HS.out.mono ?_
      rintro e w1 ⟨rfl, b1, o1⟩
      obtain ⟨q1, q2, _⟩ := HX.out w1 b1
      have H2 := Lib.hid q2
      have H3 := Lib.hid o1
      clear b1 o1 q2
      go_wp2_with fail
      go_ret
      exact ⟨by simp [hn], H2.out, H3.out⟩
    · go_enter Try.func50, Try.ntmps50
      go_wp2_with fail
      refine HS.out.mono ?_
      rintro e w1 ⟨rfl, b1, o1⟩
      obtain ⟨q1, q2, q3⟩ := HX.out w1 b1
      have H2 := Lib.hid q2
      have H3 := Lib.hid o1
      have H4 := Lib.hid q3
      clear b1 o1 q2 q3
      go_wp2_with fail
      refine H4.out.mono ?_
      rintro e w2 ⟨rfl, rfl⟩
      go_wp2_with fail
      go_ret
      exact ⟨by simp, H2.out, H3.out⟩
end Go.Proofs.Ytchhbcmkhbfpoaa
