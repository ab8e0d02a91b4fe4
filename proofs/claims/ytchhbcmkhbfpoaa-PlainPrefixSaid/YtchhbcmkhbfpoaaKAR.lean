/- The document's answers that other layers use: a number at a place. -/
import Derived.Test.YtchhbcmkhbfpoaaKAH
import Derived.Test.YtchhbcmkhbfpoaaKAI
import Derived.Test.YtchhbcmkhbfpoaaKAA
import Derived.Test.YtchhbcmkhbfpoaaKAB
import Derived.StillTailTactics
import Derived.Test.YtchhbcmkhbfpoaaKAQ
import Derived.OwnWalk
namespace Go.Proofs.Ytchhbcmkhbfpoaa
open Go.RowKit

set_option maxHeartbeats 400000 in
/-- The number of m bytes from place p on, missing ones 0. -/
theorem refNumberAt (w : World) (B : Nat) (A : Option Addr) (cap : Nat) (zs : List Int) (p m : Nat) (hr : Rd w B .u8 A zs) (hb : ByteL zs) (hl : zs.length ≤ 4611686018427387904) (hp : p ≤ 2305843009213693952) (hm : m ≤ 2305843009213693952) :
    Calls Try.prog 42 #[.slice A zs.length cap, .int .i64 p, .int .i64 m] w fun e w' => e = .returned (.int .u64 (big 18446744073709551616 (pad (zs.drop p) m))) ∧ w = w' := by
  go_enter Try.func42, Try.ntmps42
  go_wp2
  go_loop [7, 8] (fun x i => ∃ k : Nat, k ≤ m ∧ i = .int .i64 ((p + k : Nat) : Int) ∧ x = .int .u64 (big 18446744073709551616 (pad (zs.drop p) k))) (fun _ i => p + m - (intOf i).toNat)
  case atStart => exact ⟨0, Nat.zero_le _, rfl, rfl⟩
  case round =>
    obtain ⟨k, hk, rfl, rfl⟩ := hrel
    have hmi : ((p + k : Nat) : Int) = (p : Int) + k := by simp
    by_cases hlt : k < m
    · have hx := (big_range 18446744073709551616 (pad (zs.drop p) k) (by decide)).1
      have hx1 := (big_range 18446744073709551616 (pad (zs.drop p) k) (by decide)).2
      have hg : (zs.drop p).getD k 0 = zs.getD (p + k) 0 := getD_drop zs p k
      by_cases hin : p + k < zs.length
      · obtain ⟨b, o, rfl, _, hc⟩ := hr.get hin
        have HS := Lib.hid ((mod_step _ _ _).trans (big_pad 18446744073709551616 (zs.drop p) k).symm)
        rw [hg] at HS
        have hb0 := (hb.get (p + k)).1
        have hb1 := (hb.get (p + k)).2
        clear hg hmi
        generalize hj : p + k = j at *
        generalize zs.getD j 0 = c at hc HS hb0 hb1
        have hjm : j < p + m := by omega
        have hjm' : (j : Int) < (p : Int) + m := by omega
        have HJ := Lib.hid hj
        clear hj
        go_wp2
        go_round
        case rel => exact ⟨k + 1, by omega, by rw [← HJ.out]; go_num, by simp only [IntKind.wrap_u64]; rw [HS.out]⟩
        case measure => simp [intOf]; omega
      · have h0 : (zs.drop p).getD k 0 = 0 := by rw [hg]; simp [List.getD, List.getElem?_eq_none (Nat.le_of_not_lt hin)]
        have HS := Lib.hid ((big_pad 18446744073709551616 (zs.drop p) k).symm)
        rw [h0] at HS
        clear h0 hg hmi
        generalize hj : p + k = j at *
        have hjm' : (j : Int) < (p : Int) + m := by omega
        have HJ := Lib.hid hj
        clear hj
        go_wp2
        go_round
        case rel => exact ⟨k + 1, by omega, by rw [← HJ.out]; go_num, by rw [IntKind.wrap_u64, ← HS.out, Int.add_zero]⟩
        case measure => simp [intOf]; omega
    · have : k = m := by omega
      subst this
      clear hmi
      have hjm' : ¬ ((p + k : Nat) : Int) < (p : Int) + k := by simp
      go_wp2
      go_ret
      exact ⟨rfl, rfl⟩

end Go.Proofs.Ytchhbcmkhbfpoaa

/- Results of several kinds. -/
namespace Go.Proofs.Ytchhbcmkhbfpoaa
open Go.RowKit

theorem results_tmp3 {fn : Func} {t u v : Tmp} (h : fn.results = #[.tmp t, .tmp u, .tmp v]) (tmps : Array Value) (P : Program) (w : World) :
    (results fn tmps).run P w = .ok (.tuple #[tmps.getD t undef, tmps.getD u undef, tmps.getD v undef]) w := by
  simp [results, h]
theorem results_tmp6 {fn : Func} {t u v x y z : Tmp} (h : fn.results = #[.tmp t, .tmp u, .tmp v, .tmp x, .tmp y, .tmp z]) (tmps : Array Value) (P : Program) (w : World) :
    (results fn tmps).run P w = .ok (.tuple #[tmps.getD t undef, tmps.getD u undef, tmps.getD v undef, tmps.getD x undef, tmps.getD y undef, tmps.getD z undef]) w := by
  simp [results, h]
/-- A struct in memory ahead of two numbers. -/
theorem results_blk3 {P : Program} {fn : Func} {p a b : Tmp} {ty : TypeId} (h : fn.results = #[.cell p ty, .tmp a, .tmp b]) (tmps : Array Value) {w : World} {g : Nat} {t : TypeId} {cs : Array Value} {d : TypeDesc} (hp : tmps.getD p undef = .pointer (some ⟨g, 0, none⟩))
    (hg : Blk w g t cs) (hu : P.underlying ty = some d) (hd : d.isRow = true) (hi : (P.info? ty).map (·.size) = some cs.size) :
    (results fn tmps).run P w = .ok (.tuple #[.agg cs, tmps.getD a undef, tmps.getD b undef]) w := by
  have hp' : tmps[p]?.getD undef = .pointer (some ⟨g, 0, none⟩) := by simpa using hp
  have hl := run_loadVar_row w g t ty cs (0, 0) d hg hu (by cases d <;> simp_all [TypeDesc.isRow]) hi
  simp [results, h, hp', asAddr, hl]
/-- A struct in memory ahead of one. -/
theorem results_blk2 {P : Program} {fn : Func} {p a : Tmp} {ty : TypeId} (h : fn.results = #[.cell p ty, .tmp a]) (tmps : Array Value) {w : World} {g : Nat} {t : TypeId} {cs : Array Value} {d : TypeDesc} (hp : tmps.getD p undef = .pointer (some ⟨g, 0, none⟩))
    (hg : Blk w g t cs) (hu : P.underlying ty = some d) (hd : d.isRow = true) (hi : (P.info? ty).map (·.size) = some cs.size) :
    (results fn tmps).run P w = .ok (.tuple #[.agg cs, tmps.getD a undef]) w := by
  have hp' : tmps[p]?.getD undef = .pointer (some ⟨g, 0, none⟩) := by simpa using hp
  have hl := run_loadVar_row w g t ty cs (0, 0) d hg hu (by cases d <;> simp_all [TypeDesc.isRow]) hi
  simp [results, h, hp', asAddr, hl]
end Go.Proofs.Ytchhbcmkhbfpoaa

/- The document's head at a place. -/
namespace Go.Proofs.Ytchhbcmkhbfpoaa
open Go.RowKit

def hreadV (r : HR) (p : Nat) : Value := .tuple #[.int .i64 r.major, .int .i64 r.width, .int .u64 r.arg, .int .i64 r.many, .int .i64 (if r.place < 0 then -1 else r.place + p), .int .i64 r.e]
theorem big_lt (l : List Int) (hb : ByteL l) (n : Nat) : big 18446744073709551616 (pad l n) < 256 ^ n := by
  induction n with
  | zero => show (0 : Int) < 1; decide
  | succ n ih =>
    rw [big_pad]
    have h0 := (big_range 18446744073709551616 (pad l n) (by decide)).1
    have hc := hb.get n
    have hp : (256 : Int) ^ (n + 1) = 256 ^ n * 256 := Int.pow_succ _ _
    have : big 18446744073709551616 (pad l n) * 256 + l.getD n 0 < 256 ^ (n + 1) := by omega
    have hy : 0 ≤ big 18446744073709551616 (pad l n) * 256 + l.getD n 0 := by omega
    clear ih
    generalize big 18446744073709551616 (pad l n) * 256 + l.getD n 0 = y at *
    have h2 : y % 18446744073709551616 ≤ y := by omega
    exact Int.lt_of_le_of_lt h2 this
theorem hwid_step {j : Int} (h : 24 ≤ j) (h' : j < 27) : hwid j * 2 = hwid (j + 1) := by
  have : j = 24 ∨ j = 25 ∨ j = 26 := by omega
  rcases this with rfl | rfl | rfl <;> rfl
theorem shorts {m W a : Int} (hW : W = 1 ∨ W = 2 ∨ W = 4 ∨ W = 8) (h0 : 0 ≤ a) (h1 : W = 1 → a < 256) (h2 : W = 2 → a < 65536) (h4 : W = 4 → a < 4294967296) (hm : ¬ (m = 7 ∧ 1 < W)) :
    hshort m W a = !(decide ((W = 1 ∧ a < 24) ∨ (W = 2 ∧ a < 256) ∨ (W = 4 ∧ a < 65536) ∨ (W = 8 ∧ a < 4294967296))) := by
  unfold hshort
  rw [if_neg hm]
  unfold leastW
  rcases hW with rfl | rfl | rfl | rfl
  · have := h1 rfl
    by_cases h : a < 24
    · simp [h]
    · simp [h, this]
  · have := h2 rfl
    by_cases h : a < 256
    · have hh : ¬ (2 : Int) = (if a < 24 then 0 else 1) := by split <;> decide
      simp [h, hh]
    · simp [h, this, show ¬ a < 24 by omega]
  · have := h4 rfl
    by_cases h : a < 65536
    · have hh : ¬ (4 : Int) = (if a < 24 then 0 else if a < 256 then 1 else 2) := by (repeat' split) <;> decide
      simp [h, hh]
    · simp [h, this, show ¬ a < 24 by omega, show ¬ a < 256 by omega]
  · by_cases h : a < 4294967296
    · have hh : ¬ (8 : Int) = (if a < 24 then 0 else if a < 256 then 1 else if a < 65536 then 2 else 4) := by (repeat' split) <;> decide
      simp [h, hh]
    · simp [h, show ¬ a < 24 by omega, show ¬ a < 256 by omega, show ¬ a < 65536 by omega]

def R6 (a b c d e f : Int) : Value := .tuple #[.int .i64 a, .int .i64 b, .int .u64 c, .int .i64 d, .int .i64 e, .int .i64 f]
def RPost (n p m W a : Int) (e : Ending) : Prop :=
  e = .returned (if n ≤ p + W then R6 0 0 0 0 n 9 else if m = 7 ∧ W = 1 ∧ a < 32 then R6 0 0 0 0 (p + 1) 2 else if hshort m W a then R6 m W a (1 + W) (-1) 0 else R6 m W a (1 + W) (p + W) 5)
theorem RPost.cut {n p m W a : Int} (h : n ≤ p + W) : RPost n p m W a (.returned (R6 0 0 0 0 n 9)) := by unfold RPost; rw [if_pos h]
theorem RPost.simple {n p m W a : Int} (h : p + W < n) (hs : m = 7 ∧ W = 1 ∧ a < 32) : RPost n p m W a (.returned (R6 0 0 0 0 (p + 1) 2)) := by unfold RPost; rw [if_neg (by omega), if_pos hs]
theorem RPost.whole {n p m W a : Int} (h : p + W < n) (hs : ¬ (m = 7 ∧ W = 1 ∧ a < 32)) (hh : hshort m W a = true) : RPost n p m W a (.returned (R6 m W a (1 + W) (-1) 0)) := by unfold RPost; rw [if_neg (by omega), if_neg hs, if_pos hh]
theorem RPost.long {n p m W a : Int} (h : p + W < n) (hs : ¬ (m = 7 ∧ W = 1 ∧ a < 32)) (hh : hshort m W a = false) : RPost n p m W a (.returned (R6 m W a (1 + W) (p + W) 5)) := by unfold RPost; rw [if_neg (by omega), if_neg hs, if_neg (by rw [hh]; decide)]
theorem wid_in {W : Int} (h : W = 1 ∨ W = 2 ∨ W = 4 ∨ W = 8) : 1 ≤ W ∧ W ≤ 8 := by omega
set_option maxHeartbeats 4000000 in
set_option maxRecDepth 100000 in
theorem ref_Read_wide (w : World) (B : Nat) (b o : Nat) (cap : Nat) (L : List Int) (p : Nat) (hr : Rd w B .u8 (some ⟨b, o, none⟩) L) (hB : B ≤ w.heap.size) (hb : ByteL L) (hl : L.length ≤ 1000000000) (hlt : p < L.length)
    (c m i W a : Int) (hc : w.cell? ⟨b, o + p, none⟩ = some (.int .u8 c)) (hc0 : 0 ≤ c) (hc1 : c < 256) (hm : c / 32 = m) (hi : c % 32 = i) (h24 : 24 ≤ i) (h28 : i < 28) (hW : hwid i = W) (ha : big 18446744073709551616 (pad (L.drop (p + 1)) W.toNat) = a) :
    Calls Try.prog 31 #[.slice (some ⟨b, o, none⟩) L.length cap, .int .i64 p] w fun e w' => RPost L.length p m W a e ∧ Below w.heap.size w w' := by
  have hWs : W = 1 ∨ W = 2 ∨ W = 4 ∨ W = 8 := by
    rcases hwid_of i h24 h28 with ⟨_, h⟩ | ⟨_, h⟩ | ⟨_, h⟩ | ⟨_, h⟩ <;> omega
  obtain ⟨hW1, hW8⟩ := wid_in hWs
  have hra := big_range 18446744073709551616 (pad (L.drop (p + 1)) W.toNat) (by decide)
  have hlt' := big_lt (L.drop (p + 1)) (fun c hc => hb c (List.mem_of_mem_drop hc)) W.toNat
  rw [ha] at hra hlt'
  obtain ⟨ha0, ha1⟩ := hra
  have HL1 : Hid (W = 1 → a < 256) := fun h => by subst h; exact hlt'
  have HL2 : Hid (W = 2 → a < 65536) := fun h => by subst h; exact hlt'
  have HL4 : Hid (W = 4 → a < 4294967296) := fun h => by subst h; exact hlt'
  have HN : Hid (∀ w', Rd w' B .u8 (some ⟨b, o, none⟩) L → Calls Try.prog 42 #[.slice (some ⟨b, o, none⟩) L.length cap, .int .i64 ((p : Int) + 1), .int .i64 W] w' fun e w'' => e = .returned (.int .u64 a) ∧ w' = w'') := by
    intro w' hr'
    have hn := refNumberAt w' B (some ⟨b, o, none⟩) cap L (p + 1) W.toNat hr' hb (by omega) (by omega) (by omega)
    rw [ha, Int.toNat_of_nonneg (by omega), show ((p + 1 : Nat) : Int) = (p : Int) + 1 from rfl] at hn
    exact hn
  have HF : Hid (∀ w, Calls Try.prog 43 #[.int .u64 a, .int .i64 W] w fun e w' => e = .returned (.bool (fshort W a)) ∧ Below w.heap.size w w') := by
    intro w
    have := ref_Short a.toNat (by omega) W w
    rw [Int.toNat_of_nonneg ha0] at this
    exact this.mono fun e w' h => ⟨h.1.eq, h.2⟩
  have HST : Hid (∀ j, 24 ≤ j → j < 27 → hwid j * 2 = hwid (j + 1)) := fun j h h' => hwid_step h h'
  have HLE : Hid (∀ j, 24 ≤ j → j < 28 → hwid j ≤ 8 ∧ 1 ≤ hwid j) := fun j h h' => by
    rcases hwid_of j h h' with ⟨_, h⟩ | ⟨_, h⟩ | ⟨_, h⟩ | ⟨_, h⟩ <;> omega
  have HWs := Lib.hid hWs
  have HRd := Lib.hid hr
  have HW := Lib.hid hW
  clear ha hlt' hr hWs hW hb
  have hm0 : 0 ≤ m := by omega
  have hm7 : m ≤ 7 := by omega
  go_enter Try.func31, Try.ntmps31
  go_wp2_with fail
  go_quiet (fail)
  have HS2 := Lib.hid (below_drawnN (Below.refl w.heap.size w) nq)
  have HR2 := Lib.hid (HRd.out.drewN nq)
  generalize w.drewN nq = w2 at *
  clear HRd hc
  go_wp2_with fail
  go_loop [12, 13] (fun y j => ∃ k : Int, 24 ≤ k ∧ k ≤ i ∧ j = .int .i64 k ∧ y = .int .i64 (hwid k)) (fun _ j => (i - intOf j).toNat)
  case atStart => exact ⟨24, by decide, h24, rfl, rfl⟩
  case round =>
    obtain ⟨k, hk, hki, rfl, rfl⟩ := hrel
    by_cases hlt2 : k < i
    · have hs := Lib.hid (HST.out k hk (by omega))
      obtain ⟨hb8, hb1⟩ := HLE.out k hk (by omega)
      generalize hwid k = z at *
      go_wp2_with fail
      go_round
      case rel => exact ⟨k + 1, by omega, by omega, rfl, by rw [hs.out]⟩
      case measure => simp [intOf]; omega
    · obtain rfl : k = i := by omega
      rw [HW.out]
      clear HW HST HLE hlt2 hki
      by_cases hcut : (L.length : Int) ≤ p + W
      · have HC := Lib.hid hcut
        clear HN
        go_wp2_with fail
        refine bodyPost_ret (results_tmp6 rfl _ _ _) rfl ?_
        exact ⟨RPost.cut HC.out, HS2.out⟩
      · have HC := Lib.hid hcut
        have hn := Lib.hid (HN.out w2 HR2.out)
        clear HN HR2
        go_wp2_with fail
        refine hn.out.mono ?_
        rintro e w3 ⟨rfl, rfl⟩
        clear hn
        have hW1' : W = 1 → W ≤ 1 := by omega
        by_cases h7 : m = 7
        · subst h7
          by_cases h1 : W = 1
          · subst h1
            by_cases h32 : a < 32
            · have HP := Lib.hid (RPost.simple HC.out ⟨rfl, rfl, h32⟩)
              go_wp2_with fail
              refine bodyPost_ret (results_tmp6 rfl _ _ _) rfl ?_
              exact ⟨HP.out, HS2.out⟩
            · have hh : hshort 7 1 a = true := by
                rw [shorts HWs.out ha0 HL1.out HL2.out HL4.out (by omega)]
                simp [show ¬ a < 24 by omega]
              have HP := Lib.hid (RPost.whole HC.out (fun h => h32 h.2.2) hh)
              clear hh
              go_wp2_with fail
              refine bodyPost_ret (results_tmp6 rfl _ _ _) rfl ?_
              exact ⟨HP.out, HS2.out⟩
          · have hW2 : 1 < W := by omega
            have he : hshort 7 W a = fshort W a := by unfold hshort; rw [if_pos ⟨rfl, hW2⟩]
            have HPW := Lib.hid (fun hh => RPost.whole HC.out (fun h : (7 : Int) = 7 ∧ W = 1 ∧ a < 32 => h1 h.2.1) (he.trans hh))
            have HPL := Lib.hid (fun hh => RPost.long HC.out (fun h : (7 : Int) = 7 ∧ W = 1 ∧ a < 32 => h1 h.2.1) (he.trans hh))
            clear he
            generalize fshort W a = f at *
            go_wp2_with fail
            refine (HF.out _).mono ?_
            rintro e w4 ⟨rfl, S4⟩
            have S4' := Lib.hid (HS2.out.trans (S4.mono HS2.out.size))
            clear S4 HF
            cases f with
            | true =>
              have HP := Lib.hid (HPW.out rfl)
              clear HPW HPL
              go_wp2_with fail
              refine bodyPost_ret (results_tmp6 rfl _ _ _) rfl ?_
              exact ⟨HP.out, S4'.out⟩
            | false =>
              have HP := Lib.hid (HPL.out rfl)
              clear HPW HPL
              go_wp2_with fail
              refine bodyPost_ret (results_tmp6 rfl _ _ _) rfl ?_
              exact ⟨HP.out, S4'.out⟩
        · have hsh := shorts (m := m) HWs.out ha0 HL1.out HL2.out HL4.out (by omega)
          have HPW := Lib.hid (fun hh => RPost.whole HC.out (fun h : m = 7 ∧ W = 1 ∧ a < 32 => h7 h.1) (hsh.trans hh))
          have HPL := Lib.hid (fun hh => RPost.long HC.out (fun h : m = 7 ∧ W = 1 ∧ a < 32 => h7 h.1) (hsh.trans hh))
          clear hsh
          have hws := HWs.out
          clear HF HL1 HL2 HL4 HWs
          rcases hws with rfl | rfl | rfl | rfl
          · by_cases hlo : a < 24
            · have HP := Lib.hid (HPL.out (by simp [hlo]))
              clear HPW HPL
              go_wp2_with fail
              refine bodyPost_ret (results_tmp6 rfl _ _ _) rfl ?_
              exact ⟨HP.out, HS2.out⟩
            · have HP := Lib.hid (HPW.out (by simp [hlo]))
              clear HPW HPL
              go_wp2_with fail
              refine bodyPost_ret (results_tmp6 rfl _ _ _) rfl ?_
              exact ⟨HP.out, HS2.out⟩
          · by_cases hlo : a < 256
            · have HP := Lib.hid (HPL.out (by simp [hlo]))
              clear HPW HPL
              go_wp2_with fail
              refine bodyPost_ret (results_tmp6 rfl _ _ _) rfl ?_
              exact ⟨HP.out, HS2.out⟩
            · have HP := Lib.hid (HPW.out (by simp [hlo]))
              clear HPW HPL
              go_wp2_with fail
              refine bodyPost_ret (results_tmp6 rfl _ _ _) rfl ?_
              exact ⟨HP.out, HS2.out⟩
          · by_cases hlo : a < 65536
            · have HP := Lib.hid (HPL.out (by simp [hlo]))
              clear HPW HPL
              go_wp2_with fail
              refine bodyPost_ret (results_tmp6 rfl _ _ _) rfl ?_
              exact ⟨HP.out, HS2.out⟩
            · have HP := Lib.hid (HPW.out (by simp [hlo]))
              clear HPW HPL
              go_wp2_with fail
              refine bodyPost_ret (results_tmp6 rfl _ _ _) rfl ?_
              exact ⟨HP.out, HS2.out⟩
          · by_cases hlo : a < 4294967296
            · have HP := Lib.hid (HPL.out (by simp [hlo]))
              clear HPW HPL
              go_wp2_with fail
              refine bodyPost_ret (results_tmp6 rfl _ _ _) rfl ?_
              exact ⟨HP.out, HS2.out⟩
            · have HP := Lib.hid (HPW.out (by simp [hlo]))
              clear HPW HPL
              go_wp2_with fail
              refine bodyPost_ret (results_tmp6 rfl _ _ _) rfl ?_
              exact ⟨HP.out, HS2.out⟩
set_option maxHeartbeats 4000000 in
set_option maxRecDepth 100000 in
theorem ref_Read (w : World) (B : Nat) (A : Option Addr) (cap : Nat) (L : List Int) (p : Nat) (hr : Rd w B .u8 A L) (hB : B ≤ w.heap.size) (hb : ByteL L) (hl : L.length ≤ 1000000000) (hp : p ≤ L.length) :
    Calls Try.prog 31 #[.slice A L.length cap, .int .i64 p] w fun e w' => e = .returned (hreadV (hread (L.drop p)) p) ∧ Below w.heap.size w w' := by
  have hlen : (L.drop p).length = L.length - p := List.length_drop
  have hget : ∀ k, (L.drop p).getD k 0 = L.getD (p + k) 0 := fun k => getD_drop L p k
  have hbd : ByteL (L.drop p) := fun c hc => hb c (List.mem_of_mem_drop hc)
  by_cases hlt : p < L.length
  · obtain ⟨b, o, rfl, hbb, hc⟩ := hr.get hlt
    have hg0 := hget 0
    rw [Nat.add_zero] at hg0
    have hc0 := (hb.get p).1
    have hc1 := (hb.get p).2
    rw [← hg0] at hc hc0 hc1
    have hpos : 0 < (L.drop p).length := by omega
    have hm0 : 0 ≤ (L.drop p).getD 0 0 / 32 := by omega
    have hm7 : (L.drop p).getD 0 0 / 32 ≤ 7 := by omega
    have hi0 : 0 ≤ (L.drop p).getD 0 0 % 32 := by omega
    have hi1 : (L.drop p).getD 0 0 % 32 < 32 := by omega
    by_cases h28 : 28 ≤ (L.drop p).getD 0 0 % 32
    · have HR := hread_bad hpos h28
      generalize (L.drop p).getD 0 0 = c at *
      have HV : Hid (hreadV (hread (L.drop p)) p = .tuple #[.int .i64 0, .int .i64 0, .int .u64 0, .int .i64 0, .int .i64 p, .int .i64 (hbad (c / 32) (c % 32))]) := Lib.hid (by rw [HR]; unfold hreadV hnone; simp)
      have hbe : hbad (c / 32) (c % 32) = if c % 32 = 31 ∧ 2 ≤ c / 32 ∧ c / 32 ≤ 5 then 5 else 2 := by unfold hbad; rw [if_neg (by omega)]
      rw [hbe] at HV
      clear HR hget hlen hbd hg0 hpos hbe
      by_cases h31 : c % 32 = 31
      · by_cases hm2 : 2 ≤ c / 32
        · by_cases hm5 : c / 32 ≤ 5
          · rw [if_pos ⟨h31, hm2, hm5⟩] at HV
            go_enter Try.func31, Try.ntmps31
            go_wp2_with fail
            go_quiet (fail)
            have HS2 := Lib.hid (below_drawnN (Below.refl w.heap.size w) nq)
            generalize w.drewN nq = w2 at *
            go_wp2_with fail
            refine bodyPost_ret (results_tmp6 rfl _ _ _) rfl ⟨by rw [HV.out]; rfl, HS2.out⟩
          · rw [if_neg (fun h => hm5 h.2.2)] at HV
            go_enter Try.func31, Try.ntmps31
            go_wp2_with fail
            go_quiet (fail)
            have HS2 := Lib.hid (below_drawnN (Below.refl w.heap.size w) nq)
            generalize w.drewN nq = w2 at *
            go_wp2_with fail
            refine bodyPost_ret (results_tmp6 rfl _ _ _) rfl ⟨by rw [HV.out]; rfl, HS2.out⟩
        · rw [if_neg (fun h => hm2 h.2.1)] at HV
          go_enter Try.func31, Try.ntmps31
          go_wp2_with fail
          go_quiet (fail)
          have HS2 := Lib.hid (below_drawnN (Below.refl w.heap.size w) nq)
          generalize w.drewN nq = w2 at *
          go_wp2_with fail
          refine bodyPost_ret (results_tmp6 rfl _ _ _) rfl ⟨by rw [HV.out]; rfl, HS2.out⟩
      · rw [if_neg (fun h => h31 h.1)] at HV
        go_enter Try.func31, Try.ntmps31
        go_wp2_with fail
        go_quiet (fail)
        have HS2 := Lib.hid (below_drawnN (Below.refl w.heap.size w) nq)
        generalize w.drewN nq = w2 at *
        go_wp2_with fail
        refine bodyPost_ret (results_tmp6 rfl _ _ _) rfl ⟨by rw [HV.out]; rfl, HS2.out⟩
    by_cases h24 : (L.drop p).getD 0 0 % 32 < 24
    · have HR := hread_small hpos h24
      generalize (L.drop p).getD 0 0 = c at *
      have HV : Hid (hreadV (hread (L.drop p)) p = .tuple #[.int .i64 (c / 32), .int .i64 0, .int .u64 (c % 32), .int .i64 1, .int .i64 (-1), .int .i64 0]) := Lib.hid (by rw [HR]; unfold hreadV; simp)
      clear HR hget hlen hbd hg0 hpos
      go_enter Try.func31, Try.ntmps31
      go_wp2_with fail
      go_quiet (fail)
      have HS2 := Lib.hid (below_drawnN (Below.refl w.heap.size w) nq)
      generalize w.drewN nq = w2 at *
      go_wp2_with fail
      refine bodyPost_ret (results_tmp6 rfl _ _ _) rfl ⟨by rw [HV.out]; rfl, HS2.out⟩
    · have hW := rfl (a := hwid ((L.drop p).getD 0 0 % 32))
      have hwide := ref_Read_wide w B b o cap L p hr hB hb hl hlt _ _ _ _ _ hc hc0 hc1 rfl rfl (by omega) (by omega) rfl rfl
      refine hwide.mono fun e w' h => ⟨?_, h.2⟩
      rw [h.1]
      clear hwide h
      have hd : (L.drop p).drop 1 = L.drop (p + 1) := by rw [List.drop_drop]
      have hwp : 1 ≤ hwid ((L.drop p).getD 0 0 % 32) := by
        rcases hwid_of _ (by omega : 24 ≤ (L.drop p).getD 0 0 % 32) (by omega) with ⟨_, h⟩ | ⟨_, h⟩ | ⟨_, h⟩ | ⟨_, h⟩ <;> omega
      have hcutR := hread_cut (L := L.drop p) hpos (by omega) (by omega)
      have hsimR := hread_simple (L := L.drop p) hpos (by omega) (by omega)
      have hwhR := hread_whole (L := L.drop p) hpos (by omega) (by omega)
      unfold harg at hsimR hwhR
      rw [hd] at hsimR hwhR
      clear hW
      generalize big 18446744073709551616 (pad (L.drop (p + 1)) (hwid ((L.drop p).getD 0 0 % 32)).toNat) = a at *
      generalize hwid ((L.drop p).getD 0 0 % 32) = W at *
      by_cases hcut : (L.length : Int) ≤ p + W
      · rw [if_pos hcut, hcutR (by omega)]
        unfold hreadV hnone R6
        simp only
        rw [if_neg (by omega), show (((L.drop p).length : Nat) : Int) + p = L.length by omega]
      · rw [if_neg hcut]
        by_cases hs : (L.drop p).getD 0 0 / 32 = 7 ∧ W = 1 ∧ a < 32
        · rw [if_pos hs, hsimR (by omega) hs]
          unfold hreadV hnone R6
          simp only
          rw [if_neg (by decide), Int.add_comm]
        · rw [if_neg hs, hwhR (by omega) hs]
          unfold hlong
          cases hshort ((L.drop p).getD 0 0 / 32) W a with
          | true => rfl
          | false =>
            unfold hreadV R6
            simp only [Bool.false_eq_true, if_false]
            rw [if_neg (by omega), Int.add_comm (p : Int)]
  · have hp' : p = L.length := by omega
    have HV : Hid (hreadV (hread (L.drop p)) p = .tuple #[.int .i64 0, .int .i64 0, .int .u64 0, .int .i64 0, .int .i64 (L.length : Int), .int .i64 9]) := Lib.hid (by
      rw [hread_nil (by omega)]; unfold hreadV hnone; simp [hp'])
    clear hget hlen hbd
    go_enter Try.func31, Try.ntmps31
    go_wp2_with fail
    refine bodyPost_ret (results_tmp6 rfl _ _ _) rfl ⟨by rw [HV.out]; rfl, Below.refl _ _⟩
end Go.Proofs.Ytchhbcmkhbfpoaa

/- The document's scan (layer 14), plain: what an item has, by cases. -/
namespace Go.Proofs.Ytchhbcmkhbfpoaa
open Go.RowKit

theorem hread_placed {L : List Int} (h : (hread L).e ≠ 0) : 0 ≤ (hread L).place := by
  unfold hread at h ⊢
  by_cases h0 : L.length = 0
  · rw [if_pos h0]; exact Int.le_refl 0
  rw [if_neg h0] at h ⊢
  by_cases h28 : 28 ≤ L.getD 0 0 % 32
  · rw [if_pos h28]; exact Int.le_refl 0
  rw [if_neg h28] at h ⊢
  by_cases h24 : L.getD 0 0 % 32 < 24
  · rw [if_pos h24] at h; exact absurd rfl h
  rw [if_neg h24] at h ⊢
  by_cases hcut : (L.length : Int) ≤ hwid (L.getD 0 0 % 32)
  · rw [if_pos hcut]; show (0 : Int) ≤ L.length; omega
  rw [if_neg hcut] at h ⊢
  by_cases hs : L.getD 0 0 / 32 = 7 ∧ hwid (L.getD 0 0 % 32) = 1 ∧ harg L (hwid (L.getD 0 0 % 32)) < 32
  · rw [if_pos hs]; show (0 : Int) ≤ 1; decide
  rw [if_neg hs] at h ⊢
  have hW : 0 ≤ hwid (L.getD 0 0 % 32) := by
    rcases hwid_of (L.getD 0 0 % 32) (by omega) (by omega) with ⟨_, h⟩ | ⟨_, h⟩ | ⟨_, h⟩ | ⟨_, h⟩ <;> omega
  unfold hlong at h ⊢
  generalize hshort (L.getD 0 0 / 32) (hwid (L.getD 0 0 % 32)) (harg L (hwid (L.getD 0 0 % 32))) = b at *
  cases b with
  | true => exact absurd rfl h
  | false => exact hW
theorem hread_major (L : List Int) (hb : ByteL L) : 0 ≤ (hread L).major ∧ (hread L).major ≤ 7 := by
  have := hb.get 0
  unfold hread
  repeat' split
  all_goals first
    | (dsimp only [hnone, hlong]; omega)
    | (show (0 : Int) ≤ 0 ∧ (0 : Int) ≤ 7; omega)
/-- What is noted of a head. -/
def hnn (r : HR) (a : Nat) : List Note := if r.e = 0 then [] else [(a + r.place.toNat, r.e)]
theorem inner_out {L : List Int} {item : Nat → Nat → Bool → Sc} {a d : Nat} (h : L.length ≤ a ∨ (hread (L.drop a)).e = 9) : scInner L item a d = ⟨[], [], a, false⟩ := by
  unfold scInner; dsimp only; rw [if_pos h]
theorem inner_none {L : List Int} {item : Nat → Nat → Bool → Sc} {a d : Nat} (h : ¬ (L.length ≤ a ∨ (hread (L.drop a)).e = 9)) (h0 : (hread (L.drop a)).many = 0) : scInner L item a d = ⟨hnn (hread (L.drop a)) a, [], a, false⟩ := by
  unfold scInner hnn; dsimp only; rw [if_neg h, if_pos h0]
theorem inner_go {L : List Int} {item : Nat → Nat → Bool → Sc} {a d : Nat} (h : ¬ (L.length ≤ a ∨ (hread (L.drop a)).e = 9)) (h0 : (hread (L.drop a)).many ≠ 0) : scInner L item a d = ⟨hnn (hread (L.drop a)) a ++ (scBody L item d (hread (L.drop a)).major (hread (L.drop a)).arg (a + (hread (L.drop a)).many.toNat)).notes, ⟨1, (hread (L.drop a)).major, (hread (L.drop a)).width, (hread (L.drop a)).arg, 0, d, a + (hread (L.drop a)).many.toNat - 1⟩ :: (scBody L item d (hread (L.drop a)).major (hread (L.drop a)).arg (a + (hread (L.drop a)).many.toNat)).evs, (scBody L item d (hread (L.drop a)).major (hread (L.drop a)).arg (a + (hread (L.drop a)).many.toNat)).to, (scBody L item d (hread (L.drop a)).major (hread (L.drop a)).arg (a + (hread (L.drop a)).many.toNat)).ok⟩ := by
  unfold scInner hnn; dsimp only; rw [if_neg h, if_neg h0]
/-- The head at a place, as the scan asks for it. -/
theorem ref_head {w : World} {B g : Nat} {A : Option Addr} {cap : Nat} {L : List Int} {d k s : Int} {N : List Note} {E : List AEv} (h : Sn w B g A cap L d k s N E) (hB : B ≤ w.heap.size) (hb : ByteL L) (hl : L.length ≤ 300) (a : Nat) (ha : a ≤ L.length) :
    Calls Try.prog 31 #[.slice A L.length cap, .int .i64 (a : Int)] w fun e w' => e = .returned (hreadV (hread (L.drop a)) a) ∧ Below w.heap.size w w' := by
  obtain ⟨vA, vE, vV, h⟩ := h
  exact ref_Read w B A cap L a h.rd hB hb (by omega) ha
end Go.Proofs.Ytchhbcmkhbfpoaa

/- The document's scan (layer 14): what an item has, up to its body. -/
namespace Go.Proofs.Ytchhbcmkhbfpoaa
open Go.RowKit

def kInn : List Bool := [false, false, false, false, false, false, false, false, false, false, false, false, false, false, false, false, false, false, false, false, false, false, false, false, false, false, false, false, false, false, false, false, false, false, false, false, false, false, false, false, false, false, false, false, false, false, false, false, false, false, false, true, true, true, true, true]
/-- inner's call. -/
abbrev InnAt (B g : Nat) (A : Option Addr) (cap : Nat) (L : List Int) (D K : Nat) (s : Int) (a dp : Nat) (w : World) (N : List Note) (E : List AEv) (r : Sc) : Prop :=
  Calls Try.prog 35 #[.pointer (some ⟨g, 0, none⟩), .int .i64 (a : Int), .int .i64 (dp : Int)] w fun e w' => ScP B g A cap L D K s N E r w e w'
set_option maxRecDepth 100000 in
set_option maxHeartbeats 4000000 in
theorem inner_past (B g : Nat) (A : Option Addr) (cap : Nat) (L : List Int) (D K : Nat) (s : Int) (a dp : Nat) (w : World) (N : List Note) (E : List AEv) (h : Sn w B g A cap L D K s N E) (_hB : B ≤ w.heap.size) (ha : L.length ≤ a) (hd : dp ≤ 1000) (ha' : a ≤ 300) :
    InnAt B g A cap L D K s a dp w N E ⟨[], [], a, false⟩ := by
  obtain ⟨c0, c1, c2, c3⟩ := h.cells
  have HH := Lib.hid h
  have i1 : (L.length : Int) ≤ a := by omega
  have i2 : (dp : Int) ≤ 1000 := by omega
  have i3 : (a : Int) ≤ 300 := by omega
  clear h _hB ha hd ha'
  unfold InnAt ScP
  go_enter Try.func35, Try.ntmps35
  go_wp2_with fail
  refine bodyPost_ret (results_tmp2 rfl _ _ _) rfl ?_
  exact ⟨rfl, by simpa using HH.out, Below.refl _ _⟩
set_option maxRecDepth 100000 in
set_option maxHeartbeats 4000000 in
theorem inner_cut (B g : Nat) (A : Option Addr) (cap : Nat) (L : List Int) (D K : Nat) (s : Int) (a dp : Nat) (w : World) (N : List Note) (E : List AEv) (h : Sn w B g A cap L D K s N E) (hB : B ≤ w.heap.size) (hb : ByteL L) (hl : L.length ≤ 300) (ha : a < L.length) (hd : dp ≤ 1000) (hn : N.length ≤ 900000) (hc : (hread (L.drop a)).e = 9) :
    InnAt B g A cap L D K s a dp w N E ⟨[], [], a, false⟩ := by
  obtain ⟨c0, c1, c2, c3⟩ := h.cells
  have HH := Lib.hid h
  have HB := Lib.hid hB
  have i1 : (a : Int) < L.length := by omega
  have i2 : (dp : Int) ≤ 1000 := by omega
  have i3 : (L.length : Int) ≤ 300 := by omega
  have i4 : (0 : Int) ≤ dp := by omega
  have i5 : (0 : Int) ≤ a := by omega
  have HRD := Lib.hid (ref_head h hB hb hl a (by omega))
  have hmn := hread_many (L.drop a)
  rw [List.length_drop] at hmn
  have hpl : (hread (L.drop a)).e ≠ 0 → (if (hread (L.drop a)).place < 0 then -1 else (hread (L.drop a)).place + (a : Int)) = ((a + (hread (L.drop a)).place.toNat : Nat) : Int) := fun h0 => by
    have := hread_placed h0
    rw [if_neg (by omega)]
    omega
  have hmj := hread_major (L.drop a) (fun c hc => hb c (List.mem_of_mem_drop hc))
  have hag := hread_arg (L.drop a)
  unfold hreadV at HRD
  generalize hread (L.drop a) = r at *
  obtain ⟨m, W, q, z, p, er⟩ := r
  dsimp only at HRD hmn hpl hmj hag hc ⊢
  generalize (if p < 0 then -1 else p + (a : Int)) = pl at *
  have i6 : (a : Int) + z ≤ L.length := by omega
  have i7 : (0 : Int) ≤ z := hmn.1
  have hlN : N.length ≤ 1000000000 := by omega
  have HN := Lib.hid hlN
  clear h hB hb hl ha hd hmn hlN hn
  subst hc
  clear hpl hmj hag
  unfold InnAt ScP
  go_enter Try.func35, Try.ntmps35
  go_wp2_with fail
  refine HRD.out.mono ?_
  rintro e1 w1 ⟨rfl, hb1⟩
  have HS1 := Lib.hid (HH.out.on hb1 HB.out)
  have HB1 := Lib.hid (Nat.le_trans HB.out hb1.size)
  have HW1 := Lib.hid (hb1.mono HB.out)
  clear hb1 HRD HB HH c0 c1 c2 c3
  go_wp2_with fail
  refine bodyPost_ret (results_tmp2 rfl _ _ _) rfl ?_
  exact ⟨rfl, by simpa using HS1.out, HW1.out⟩
set_option maxRecDepth 100000 in
set_option maxHeartbeats 4000000 in
theorem inner_zero (B g : Nat) (A : Option Addr) (cap : Nat) (L : List Int) (D K : Nat) (s : Int) (a dp : Nat) (w : World) (N : List Note) (E : List AEv) (h : Sn w B g A cap L D K s N E) (hB : B ≤ w.heap.size) (hb : ByteL L) (hl : L.length ≤ 300) (ha : a < L.length) (hd : dp ≤ 1000) (hn : N.length ≤ 900000) (hc : (hread (L.drop a)).e ≠ 9 ∧ (hread (L.drop a)).many = 0) :
    InnAt B g A cap L D K s a dp w N E ⟨hnn (hread (L.drop a)) a, [], a, false⟩ := by
  obtain ⟨c0, c1, c2, c3⟩ := h.cells
  have HH := Lib.hid h
  have HB := Lib.hid hB
  have i1 : (a : Int) < L.length := by omega
  have i2 : (dp : Int) ≤ 1000 := by omega
  have i3 : (L.length : Int) ≤ 300 := by omega
  have i4 : (0 : Int) ≤ dp := by omega
  have i5 : (0 : Int) ≤ a := by omega
  have HRD := Lib.hid (ref_head h hB hb hl a (by omega))
  have hmn := hread_many (L.drop a)
  rw [List.length_drop] at hmn
  have hpl : (hread (L.drop a)).e ≠ 0 → (if (hread (L.drop a)).place < 0 then -1 else (hread (L.drop a)).place + (a : Int)) = ((a + (hread (L.drop a)).place.toNat : Nat) : Int) := fun h0 => by
    have := hread_placed h0
    rw [if_neg (by omega)]
    omega
  have hmj := hread_major (L.drop a) (fun c hc => hb c (List.mem_of_mem_drop hc))
  have hag := hread_arg (L.drop a)
  unfold hreadV at HRD
  generalize hread (L.drop a) = r at *
  obtain ⟨m, W, q, z, p, er⟩ := r
  dsimp only at HRD hmn hpl hmj hag hc ⊢
  generalize (if p < 0 then -1 else p + (a : Int)) = pl at *
  have i6 : (a : Int) + z ≤ L.length := by omega
  have i7 : (0 : Int) ≤ z := hmn.1
  have hlN : N.length ≤ 1000000000 := by omega
  have HN := Lib.hid hlN
  clear h hB hb hl ha hd hmn hlN hn
  obtain ⟨hc, rfl⟩ := hc
  clear hmj hag
  unfold InnAt ScP hnn
  dsimp only
  by_cases her : er = 0
  · subst her
    rw [if_pos rfl]
    clear hpl
    go_enter Try.func35, Try.ntmps35
    go_wp2_with fail
    refine HRD.out.mono ?_
    rintro e1 w1 ⟨rfl, hb1⟩
    have HS1 := Lib.hid (HH.out.on hb1 HB.out)
    have HB1 := Lib.hid (Nat.le_trans HB.out hb1.size)
    have HW1 := Lib.hid (hb1.mono HB.out)
    clear hb1 HRD HB HH c0 c1 c2 c3
    go_wp2_with fail
    refine bodyPost_ret (results_tmp2 rfl _ _ _) rfl ?_
    exact ⟨rfl, by simpa using HS1.out, HW1.out⟩
  · rw [if_neg her]
    have hpl := hpl her
    generalize a + p.toNat = pn at *
    subst hpl
    go_enter Try.func35, Try.ntmps35
    go_wp2_with fail
    refine HRD.out.mono ?_
    rintro e1 w1 ⟨rfl, hb1⟩
    have HS1 := Lib.hid (HH.out.on hb1 HB.out)
    have HB1 := Lib.hid (Nat.le_trans HB.out hb1.size)
    have HW1 := Lib.hid (hb1.mono HB.out)
    clear hb1 HRD HB HH c0 c1 c2 c3
    go_wp2_with fail
    refine (ref_note w1 B g A cap L D K s N E pn er HS1.out HB1.out HN.out).mono ?_
    rintro e2 w2 ⟨rfl, hs2, hw2⟩
    have HS2 := Lib.hid hs2
    have HW2 := Lib.hid (HW1.out.trans hw2)
    clear hs2 hw2 HS1 HW1
    go_wp2_with fail
    refine bodyPost_ret (results_tmp2 rfl _ _ _) rfl ?_
    exact ⟨rfl, by simpa using HS2.out, HW2.out⟩
end Go.Proofs.Ytchhbcmkhbfpoaa

/- The document's scan (layer 14): an item that is its head alone. -/
namespace Go.Proofs.Ytchhbcmkhbfpoaa
open Go.RowKit

set_option maxRecDepth 100000 in
set_option maxHeartbeats 4000000 in
theorem inner_plain (B g : Nat) (A : Option Addr) (cap : Nat) (L : List Int) (D K : Nat) (s : Int) (a dp : Nat) (w : World) (N : List Note) (E : List AEv) (h : Sn w B g A cap L D K s N E) (hB : B ≤ w.heap.size) (hb : ByteL L) (hl : L.length ≤ 300) (ha : a < L.length) (hd : dp ≤ 1000) (hn : N.length ≤ 900000) (he : E.length ≤ 900000) (hc : (hread (L.drop a)).e ≠ 9 ∧ (hread (L.drop a)).many ≠ 0) (hm : (hread (L.drop a)).major < 2 ∨ (hread (L.drop a)).major = 7) :
    InnAt B g A cap L D K s a dp w N E ⟨hnn (hread (L.drop a)) a ++ [], ⟨1, (hread (L.drop a)).major, (hread (L.drop a)).width, (hread (L.drop a)).arg, 0, dp, a + (hread (L.drop a)).many.toNat - 1⟩ :: [], a + (hread (L.drop a)).many.toNat, true⟩ := by
  obtain ⟨c0, c1, c2, c3⟩ := h.cells
  have HH := Lib.hid h
  have HB := Lib.hid hB
  have i1 : (a : Int) < L.length := by omega
  have i2 : (dp : Int) ≤ 1000 := by omega
  have i3 : (L.length : Int) ≤ 300 := by omega
  have i4 : (0 : Int) ≤ dp := by omega
  have i5 : (0 : Int) ≤ a := by omega
  have HRD := Lib.hid (ref_head h hB hb hl a (by omega))
  have hmn := hread_many (L.drop a)
  rw [List.length_drop] at hmn
  have hpl : (hread (L.drop a)).e ≠ 0 → (if (hread (L.drop a)).place < 0 then -1 else (hread (L.drop a)).place + (a : Int)) = ((a + (hread (L.drop a)).place.toNat : Nat) : Int) := fun h0 => by
    have := hread_placed h0
    rw [if_neg (by omega)]
    omega
  have hmj := hread_major (L.drop a) (fun c hc => hb c (List.mem_of_mem_drop hc))
  have hag := hread_arg (L.drop a)
  unfold hreadV at HRD
  generalize hread (L.drop a) = r at *
  obtain ⟨m, W, q, z, p, er⟩ := r
  dsimp only at HRD hmn hpl hmj hag hc hm ⊢
  generalize (if p < 0 then -1 else p + (a : Int)) = pl at *
  have i6 : (a : Int) + z ≤ L.length := by omega
  have i7 : (0 : Int) ≤ z := hmn.1
  have hlN : N.length ≤ 1000000000 := by omega
  have HN := Lib.hid hlN
  clear h hB hb hl ha hd hmn hlN hn
  obtain ⟨hc1, hc2⟩ := hc
  have hnn0 : er = 0 → hnn ⟨m, W, q, z, p, er⟩ a = [] := fun h => if_pos h
  have hnn1 : er ≠ 0 → hnn ⟨m, W, q, z, p, er⟩ a = [(a + p.toNat, er)] := fun h => if_neg h
  have hln : (hnn ⟨m, W, q, z, p, er⟩ a).length ≤ 1 := by unfold hnn; split <;> simp
  generalize hnn ⟨m, W, q, z, p, er⟩ a = nn at *
  generalize a + p.toNat = pn at *
  have hab : (a : Int) + z = ((a + z.toNat : Nat) : Int) := by omega
  have hb1' : ((a + z.toNat - 1 : Nat) : Int) = ((a + z.toNat : Nat) : Int) - 1 := by omega
  have i8 : (a : Int) < ((a + z.toNat : Nat) : Int) := by omega
  have i9 : ((a + z.toNat : Nat) : Int) ≤ L.length := by omega
  have hz : z ≠ 0 := hc2
  have HB1' := Lib.hid hb1'
  have HLN := Lib.hid (fun _ : Unit => And.intro hln (And.intro HN.out he))
  have HNN := Lib.hid (And.intro hnn0 (And.intro hnn1 hpl))
  generalize a + z.toNat - 1 = b1 at *
  generalize a + z.toNat = b at *
  have h9 : (er == 9) = false := by simp [hc1]
  clear hb1' hln hnn0 hnn1 hpl he hc2
  clear hag
  unfold InnAt ScP
  dsimp only
  go_enter Try.func35, Try.ntmps35
  go_wp2_with fail
  refine HRD.out.mono ?_
  rintro e1 w1 ⟨rfl, hb1⟩
  have HS1 := Lib.hid (HH.out.on hb1 HB.out)
  have HB1 := Lib.hid (Nat.le_trans HB.out hb1.size)
  have HW1 := Lib.hid (hb1.mono HB.out)
  have HBW := Lib.hid HB.out
  clear hb1 HRD HB HH c0 c1 c2 c3
  go_upto_if 51 with fail
  refine wp_cut_mask kInn (fun _ W => Sn W B g A cap L D K s (N ++ nn) E ∧ Below B w W) ?_ ?_
  · intro K' HK'
    by_cases her : er = 0
    · have e3 := HNN.out.1 her
      subst her
      subst e3
      clear HNN
      go_wp2_with fail
      refine HK'.out _ _ rfl ⟨?_, HW1.out⟩
      rw [List.append_nil]
      exact HS1.out
    · have hpl := HNN.out.2.2 her
      have e3 := HNN.out.2.1 her
      subst hpl
      subst e3
      clear HNN
      go_wp2_with fail
      refine (ref_note w1 B g A cap L D K s N E pn er HS1.out HB1.out HN.out).mono ?_
      rintro e2 w2 ⟨rfl, hs2, hw2⟩
      have HS2 := Lib.hid hs2
      have HW2 := Lib.hid (HW1.out.trans hw2)
      clear hs2 hw2 HS1 HW1
      go_wp2_with fail
      exact HK'.out _ _ rfl ⟨HS2.out, HW2.out⟩
  intro t w3 hR
  obtain ⟨hs3, hw3⟩ := hR
  dsimp only [mask, kInn, Nat.reduceAdd]
  have hB3 := Nat.le_trans HBW.out hw3.size
  obtain ⟨v0, v1, v2, v3⟩ := hs3.cells
  obtain ⟨vA, vE, vV, hV⟩ := hs3
  have u6 : w3.cell? ⟨g, 6, none⟩ = some vV := hV.cells.2.2.2.2.2.2.1
  obtain ⟨A', n', c', w4, hr, h6, h7, hs4, hw4⟩ := ev_add hV hB3 (by have := HLN.out (); omega) ⟨1, m, W, q, 0, dp, b1⟩
  have e2 : (AEv.cells ⟨1, m, W, q, 0, dp, b1⟩).toArray = #[.int .i64 1, .int .i64 m, .int .i64 W, .int .i64 (dp : Int), .int .i64 ((b : Int) - 1), .int .u64 q, .int .u8 0] := by simp [AEv.cells, HB1'.out]
  rw [e2] at hr
  clear e2
  have HR := Lib.hid hr
  have HS4 := Lib.hid hs4
  have HW4 := Lib.hid (hw3.trans hw4)
  clear hr hs4 hw4 hV hw3 hB3 HS1 HW1 HB1 HNN
  have HZ := ev_zero
  unfold ev0 at HZ
  have m2 : m ≠ 2 := by omega
  have m3 : m ≠ 3 := by omega
  have m4 : m ≠ 4 := by omega
  have m5 : m ≠ 5 := by omega
  have m6 : m ≠ 6 := by omega
  go_wp2_with ((with_reducible refine is_append 44 rfl ?_); (with_reducible refine wpList_append_run rfl rfl HR.out ?_ ?_ ?_); (· rfl); (· rfl))
  refine bodyPost_ret (results_tmp2 rfl _ _ _) rfl ?_
  exact ⟨rfl, by simpa using HS4.out, HW4.out⟩
end Go.Proofs.Ytchhbcmkhbfpoaa
