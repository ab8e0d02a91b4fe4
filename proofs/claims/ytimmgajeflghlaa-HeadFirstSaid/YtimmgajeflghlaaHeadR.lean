
/- The document's head at a place. -/
import Derived.Test.YtimmgajeflghlaaHeadE
import Derived.Test.YtimmgajeflghlaaRefA
import Derived.Test.YtimmgajeflghlaaResults
import Derived.Test.YtimmgajeflghlaaMask
import Derived.StillTailTactics
namespace Go.Proofs.Ytimmgajeflghlaa
open Go.RowKit

def hreadV (r : HR) (p : Nat) : Value := .tuple #[.int .i64 r.major, .int .i64 r.width, .int .u64 r.arg, .int .i64 r.many, .int .i64 (if r.place < 0 then -1 else r.place + p), .int .i64 r.e]
theorem big_lt (l : List Int) (hb : ByteL l) (n : Nat) : big 18446744073709551616 (pad l n) < 256 ^ n := by
  induction n with
  | zero => show (0 : Int) < 1; decide
  | succ n ih =>
    rw [big_pad]
    have h0 := (big_range 18446744073709551616 (pad l n) (by decide)).1
    have hc := hb.get n
    have hp : (256 : Int) ^ (n + 1) = 256 ^ n * 256 := Int.pow_succ _ _
    have : big 18446744073709551616 (pad l n) * 256 + l.getD n 0 < 256 ^ (n + 1) := by omega
    have hy : 0 ≤ big 18446744073709551616 (pad l n) * 256 + l.getD n 0 := by omega
    clear ih
    generalize big 18446744073709551616 (pad l n) * 256 + l.getD n 0 = y at *
    have h2 : y % 18446744073709551616 ≤ y := by omega
    exact Int.lt_of_le_of_lt h2 this
theorem hwid_step {j : Int} (h : 24 ≤ j) (h' : j < 27) : hwid j * 2 = hwid (j + 1) := by
  have : j = 24 ∨ j = 25 ∨ j = 26 := by omega
  rcases this with rfl | rfl | rfl <;> rfl
theorem shorts {m W a : Int} (hW : W = 1 ∨ W = 2 ∨ W = 4 ∨ W = 8) (h0 : 0 ≤ a) (h1 : W = 1 → a < 256) (h2 : W = 2 → a < 65536) (h4 : W = 4 → a < 4294967296) (hm : ¬ (m = 7 ∧ 1 < W)) :
    hshort m W a = !(decide ((W = 1 ∧ a < 24) ∨ (W = 2 ∧ a < 256) ∨ (W = 4 ∧ a < 65536) ∨ (W = 8 ∧ a < 4294967296))) := by
  unfold hshort
  rw [if_neg hm]
  unfold leastW
  rcases hW with rfl | rfl | rfl | rfl
  · have := h1 rfl
    by_cases h : a < 24
    · simp [h]
    · simp [h, this]
  · have := h2 rfl
    by_cases h : a < 256
    · have hh : ¬ (2 : Int) = (if a < 24 then 0 else 1) := by split <;> decide
      simp [h, hh]
    · simp [h, this, show ¬ a < 24 by omega]
  · have := h4 rfl
    by_cases h : a < 65536
    · have hh : ¬ (4 : Int) = (if a < 24 then 0 else if a < 256 then 1 else 2) := by (repeat' split) <;> decide
      simp [h, hh]
    · simp [h, this, show ¬ a < 24 by omega, show ¬ a < 256 by omega]
  · by_cases h : a < 4294967296
    · have hh : ¬ (8 : Int) = (if a < 24 then 0 else if a < 256 then 1 else if a < 65536 then 2 else 4) := by (repeat' split) <;> decide
      simp [h, hh]
    · simp [h, show ¬ a < 24 by omega, show ¬ a < 256 by omega, show ¬ a < 65536 by omega]

def R6 (a b c d e f : Int) : Value := .tuple #[.int .i64 a, .int .i64 b, .int .u64 c, .int .i64 d, .int .i64 e, .int .i64 f]
def RPost (n p m W a : Int) (e : Ending) : Prop :=
  e = .returned (if n ≤ p + W then R6 0 0 0 0 n 9 else if m = 7 ∧ W = 1 ∧ a < 32 then R6 0 0 0 0 (p + 1) 2 else if hshort m W a then R6 m W a (1 + W) (-1) 0 else R6 m W a (1 + W) (p + W) 5)
theorem RPost.cut {n p m W a : Int} (h : n ≤ p + W) : RPost n p m W a (.returned (R6 0 0 0 0 n 9)) := by unfold RPost; rw [if_pos h]
theorem RPost.simple {n p m W a : Int} (h : p + W < n) (hs : m = 7 ∧ W = 1 ∧ a < 32) : RPost n p m W a (.returned (R6 0 0 0 0 (p + 1) 2)) := by unfold RPost; rw [if_neg (by omega), if_pos hs]
theorem RPost.whole {n p m W a : Int} (h : p + W < n) (hs : ¬ (m = 7 ∧ W = 1 ∧ a < 32)) (hh : hshort m W a = true) : RPost n p m W a (.returned (R6 m W a (1 + W) (-1) 0)) := by unfold RPost; rw [if_neg (by omega), if_neg hs, if_pos hh]
theorem RPost.long {n p m W a : Int} (h : p + W < n) (hs : ¬ (m = 7 ∧ W = 1 ∧ a < 32)) (hh : hshort m W a = false) : RPost n p m W a (.returned (R6 m W a (1 + W) (p + W) 5)) := by unfold RPost; rw [if_neg (by omega), if_neg hs, if_neg (by rw [hh]; decide)]
theorem wid_in {W : Int} (h : W = 1 ∨ W = 2 ∨ W = 4 ∨ W = 8) : 1 ≤ W ∧ W ≤ 8 := by omega
set_option maxHeartbeats 4000000 in
set_option maxRecDepth 100000 in
theorem ref_Read_wide (w : World) (B : Nat) (b o : Nat) (cap : Nat) (L : List Int) (p : Nat) (hr : Rd w B .u8 (some ⟨b, o, none⟩) L) (hB : B ≤ w.heap.size) (hb : ByteL L) (hl : L.length ≤ 1000000000) (hlt : p < L.length)
    (c m i W a : Int) (hc : w.cell? ⟨b, o + p, none⟩ = some (.int .u8 c)) (hc0 : 0 ≤ c) (hc1 : c < 256) (hm : c / 32 = m) (hi : c % 32 = i) (h24 : 24 ≤ i) (h28 : i < 28) (hW : hwid i = W) (ha : big 18446744073709551616 (pad (L.drop (p + 1)) W.toNat) = a) :
    Calls Try.prog 8 #[.slice (some ⟨b, o, none⟩) L.length cap, .int .i64 p] w fun e w' => RPost L.length p m W a e ∧ Below w.heap.size w w' := by
  have hWs : W = 1 ∨ W = 2 ∨ W = 4 ∨ W = 8 := by
    rcases hwid_of i h24 h28 with ⟨_, h⟩ | ⟨_, h⟩ | ⟨_, h⟩ | ⟨_, h⟩ <;> omega
  obtain ⟨hW1, hW8⟩ := wid_in hWs
  have hra := big_range 18446744073709551616 (pad (L.drop (p + 1)) W.toNat) (by decide)
  have hlt' := big_lt (L.drop (p + 1)) (fun c hc => hb c (List.mem_of_mem_drop hc)) W.toNat
  rw [ha] at hra hlt'
  obtain ⟨ha0, ha1⟩ := hra
  have HL1 : Hid (W = 1 → a < 256) := fun h => by subst h; exact hlt'
  have HL2 : Hid (W = 2 → a < 65536) := fun h => by subst h; exact hlt'
  have HL4 : Hid (W = 4 → a < 4294967296) := fun h => by subst h; exact hlt'
  have HN : Hid (∀ w', Rd w' B .u8 (some ⟨b, o, none⟩) L → Calls Try.prog 18 #[.slice (some ⟨b, o, none⟩) L.length cap, .int .i64 ((p : Int) + 1), .int .i64 W] w' fun e w'' => e = .returned (.int .u64 a) ∧ w' = w'') := by
    intro w' hr'
    have hn := refNumberAt w' B (some ⟨b, o, none⟩) cap L (p + 1) W.toNat hr' hb (by omega) (by omega) (by omega)
    rw [ha, Int.toNat_of_nonneg (by omega), show ((p + 1 : Nat) : Int) = (p : Int) + 1 from rfl] at hn
    exact hn
  have HF : Hid (∀ w, Calls Try.prog 19 #[.int .u64 a, .int .i64 W] w fun e w' => e = .returned (.bool (fshort W a)) ∧ Below w.heap.size w w') := by
    intro w
    have := ref_Short a.toNat (by omega) W w
    rw [Int.toNat_of_nonneg ha0] at this
    exact this.mono fun e w' h => ⟨h.1.eq, h.2⟩
  have HST : Hid (∀ j, 24 ≤ j → j < 27 → hwid j * 2 = hwid (j + 1)) := fun j h h' => hwid_step h h'
  have HLE : Hid (∀ j, 24 ≤ j → j < 28 → hwid j ≤ 8 ∧ 1 ≤ hwid j) := fun j h h' => by
    rcases hwid_of j h h' with ⟨_, h⟩ | ⟨_, h⟩ | ⟨_, h⟩ | ⟨_, h⟩ <;> omega
  have HWs := Lib.hid hWs
  have HRd := Lib.hid hr
  have HW := Lib.hid hW
  clear ha hlt' hr hWs hW hb
  have hm0 : 0 ≤ m := by omega
  have hm7 : m ≤ 7 := by omega
  go_enter Try.func8, Try.ntmps8
  go_wp2_with fail
  go_quiet (fail)
  have HS2 := Lib.hid (below_drawnN (Below.refl w.heap.size w) nq)
  have HR2 := Lib.hid (HRd.out.drewN nq)
  generalize w.drewN nq = w2 at *
  clear HRd hc
  go_wp2_with fail
  go_loop [12, 13] (fun y j => ∃ k : Int, 24 ≤ k ∧ k ≤ i ∧ j = .int .i64 k ∧ y = .int .i64 (hwid k)) (fun _ j => (i - intOf j).toNat)
  case atStart => exact ⟨24, by decide, h24, rfl, rfl⟩
  case round =>
    obtain ⟨k, hk, hki, rfl, rfl⟩ := hrel
    by_cases hlt2 : k < i
    · have hs := Lib.hid (HST.out k hk (by omega))
      obtain ⟨hb8, hb1⟩ := HLE.out k hk (by omega)
      generalize hwid k = z at *
      go_wp2_with fail
      go_round
      case rel => exact ⟨k + 1, by omega, by omega, rfl, by rw [hs.out]⟩
      case measure => simp [intOf]; omega
    · obtain rfl : k = i := by omega
      rw [HW.out]
      clear HW HST HLE hlt2 hki
      by_cases hcut : (L.length : Int) ≤ p + W
      · have HC := Lib.hid hcut
        clear HN
        go_wp2_with fail
        refine bodyPost_ret (results_tmp6 rfl _ _ _) rfl ?_
        exact ⟨RPost.cut HC.out, HS2.out⟩
      · have HC := Lib.hid hcut
        have hn := Lib.hid (HN.out w2 HR2.out)
        clear HN HR2
        go_wp2_with fail
        refine hn.out.mono ?_
        rintro e w3 ⟨rfl, rfl⟩
        clear hn
        have hW1' : W = 1 → W ≤ 1 := by omega
        by_cases h7 : m = 7
        · subst h7
          by_cases h1 : W = 1
          · subst h1
            by_cases h32 : a < 32
            · have HP := Lib.hid (RPost.simple HC.out ⟨rfl, rfl, h32⟩)
              go_wp2_with fail
              refine bodyPost_ret (results_tmp6 rfl _ _ _) rfl ?_
              exact ⟨HP.out, HS2.out⟩
            · have hh : hshort 7 1 a = true := by
                rw [shorts HWs.out ha0 HL1.out HL2.out HL4.out (by omega)]
                simp [show ¬ a < 24 by omega]
              have HP := Lib.hid (RPost.whole HC.out (fun h => h32 h.2.2) hh)
              clear hh
              go_wp2_with fail
              refine bodyPost_ret (results_tmp6 rfl _ _ _) rfl ?_
              exact ⟨HP.out, HS2.out⟩
          · have hW2 : 1 < W := by omega
            have he : hshort 7 W a = fshort W a := by unfold hshort; rw [if_pos ⟨rfl, hW2⟩]
            have HPW := Lib.hid (fun hh => RPost.whole HC.out (fun h : (7 : Int) = 7 ∧ W = 1 ∧ a < 32 => h1 h.2.1) (he.trans hh))
            have HPL := Lib.hid (fun hh => RPost.long HC.out (fun h : (7 : Int) = 7 ∧ W = 1 ∧ a < 32 => h1 h.2.1) (he.trans hh))
            clear he
            generalize fshort W a = f at *
            go_wp2_with fail
            refine (HF.out _).mono ?_
            rintro e w4 ⟨rfl, S4⟩
            have S4' := Lib.hid (HS2.out.trans (S4.mono HS2.out.size))
            clear S4 HF
            cases f with
            | true =>
              have HP := Lib.hid (HPW.out rfl)
              clear HPW HPL
              go_wp2_with fail
              refine bodyPost_ret (results_tmp6 rfl _ _ _) rfl ?_
              exact ⟨HP.out, S4'.out⟩
            | false =>
              have HP := Lib.hid (HPL.out rfl)
              clear HPW HPL
              go_wp2_with fail
              refine bodyPost_ret (results_tmp6 rfl _ _ _) rfl ?_
              exact ⟨HP.out, S4'.out⟩
        · have hsh := shorts (m := m) HWs.out ha0 HL1.out HL2.out HL4.out (by omega)
          have HPW := Lib.hid (fun hh => RPost.whole HC.out (fun h : m = 7 ∧ W = 1 ∧ a < 32 => h7 h.1) (hsh.trans hh))
          have HPL := Lib.hid (fun hh => RPost.long HC.out (fun h : m = 7 ∧ W = 1 ∧ a < 32 => h7 h.1) (hsh.trans hh))
          clear hsh
          have hws := HWs.out
          clear HF HL1 HL2 HL4 HWs
          rcases hws with rfl | rfl | rfl | rfl
          · by_cases hlo : a < 24
            · have HP := Lib.hid (HPL.out (by simp [hlo]))
              clear HPW HPL
              go_wp2_with fail
              refine bodyPost_ret (results_tmp6 rfl _ _ _) rfl ?_
              exact ⟨HP.out, HS2.out⟩
            · have HP := Lib.hid (HPW.out (by simp [hlo]))
              clear HPW HPL
              go_wp2_with fail
              refine bodyPost_ret (results_tmp6 rfl _ _ _) rfl ?_
              exact ⟨HP.out, HS2.out⟩
          · by_cases hlo : a < 256
            · have HP := Lib.hid (HPL.out (by simp [hlo]))
              clear HPW HPL
              go_wp2_with fail
              refine bodyPost_ret (results_tmp6 rfl _ _ _) rfl ?_
              exact ⟨HP.out, HS2.out⟩
            · have HP := Lib.hid (HPW.out (by simp [hlo]))
              clear HPW HPL
              go_wp2_with fail
              refine bodyPost_ret (results_tmp6 rfl _ _ _) rfl ?_
              exact ⟨HP.out, HS2.out⟩
          · by_cases hlo : a < 65536
            · have HP := Lib.hid (HPL.out (by simp [hlo]))
              clear HPW HPL
              go_wp2_with fail
              refine bodyPost_ret (results_tmp6 rfl _ _ _) rfl ?_
              exact ⟨HP.out, HS2.out⟩
            · have HP := Lib.hid (HPW.out (by simp [hlo]))
              clear HPW HPL
              go_wp2_with fail
              refine bodyPost_ret (results_tmp6 rfl _ _ _) rfl ?_
              exact ⟨HP.out, HS2.out⟩
          · by_cases hlo : a < 4294967296
            · have HP := Lib.hid (HPL.out (by simp [hlo]))
              clear HPW HPL
              go_wp2_with fail
              refine bodyPost_ret (results_tmp6 rfl _ _ _) rfl ?_
              exact ⟨HP.out, HS2.out⟩
            · have HP := Lib.hid (HPW.out (by simp [hlo]))
              clear HPW HPL
              go_wp2_with fail
              refine bodyPost_ret (results_tmp6 rfl _ _ _) rfl ?_
              exact ⟨HP.out, HS2.out⟩
set_option maxHeartbeats 4000000 in
set_option maxRecDepth 100000 in
theorem ref_Read (w : World) (B : Nat) (A : Option Addr) (cap : Nat) (L : List Int) (p : Nat) (hr : Rd w B .u8 A L) (hB : B ≤ w.heap.size) (hb : ByteL L) (hl : L.length ≤ 1000000000) (hp : p ≤ L.length) :
    Calls Try.prog 8 #[.slice A L.length cap, .int .i64 p] w fun e w' => e = .returned (hreadV (hread (L.drop p)) p) ∧ Below w.heap.size w w' := by
  have hlen : (L.drop p).length = L.length - p := List.length_drop
  have hget : ∀ k, (L.drop p).getD k 0 = L.getD (p + k) 0 := fun k => getD_drop L p k
  have hbd : ByteL (L.drop p) := fun c hc => hb c (List.mem_of_mem_drop hc)
  by_cases hlt : p < L.length
  · obtain ⟨b, o, rfl, hbb, hc⟩ := hr.get hlt
    have hg0 := hget 0
    rw [Nat.add_zero] at hg0
    have hc0 := (hb.get p).1
    have hc1 := (hb.get p).2
    rw [← hg0] at hc hc0 hc1
    have hpos : 0 < (L.drop p).length := by omega
    have hm0 : 0 ≤ (L.drop p).getD 0 0 / 32 := by omega
    have hm7 : (L.drop p).getD 0 0 / 32 ≤ 7 := by omega
    have hi0 : 0 ≤ (L.drop p).getD 0 0 % 32 := by omega
    have hi1 : (L.drop p).getD 0 0 % 32 < 32 := by omega
    by_cases h28 : 28 ≤ (L.drop p).getD 0 0 % 32
    · have HR := hread_bad hpos h28
      generalize (L.drop p).getD 0 0 = c at *
      have HV : Hid (hreadV (hread (L.drop p)) p = .tuple #[.int .i64 0, .int .i64 0, .int .u64 0, .int .i64 0, .int .i64 p, .int .i64 (hbad (c / 32) (c % 32))]) := Lib.hid (by rw [HR]; unfold hreadV hnone; simp)
      have hbe : hbad (c / 32) (c % 32) = if c % 32 = 31 ∧ 2 ≤ c / 32 ∧ c / 32 ≤ 5 then 5 else 2 := by unfold hbad; rw [if_neg (by omega)]
      rw [hbe] at HV
      clear HR hget hlen hbd hg0 hpos hbe
      by_cases h31 : c % 32 = 31
      · by_cases hm2 : 2 ≤ c / 32
        · by_cases hm5 : c / 32 ≤ 5
          · rw [if_pos ⟨h31, hm2, hm5⟩] at HV
            go_enter Try.func8, Try.ntmps8
            go_wp2_with fail
            go_quiet (fail)
            have HS2 := Lib.hid (below_drawnN (Below.refl w.heap.size w) nq)
            generalize w.drewN nq = w2 at *
            go_wp2_with fail
            refine bodyPost_ret (results_tmp6 rfl _ _ _) rfl ⟨by rw [HV.out]; rfl, HS2.out⟩
          · rw [if_neg (fun h => hm5 h.2.2)] at HV
            go_enter Try.func8, Try.ntmps8
            go_wp2_with fail
            go_quiet (fail)
            have HS2 := Lib.hid (below_drawnN (Below.refl w.heap.size w) nq)
            generalize w.drewN nq = w2 at *
            go_wp2_with fail
            refine bodyPost_ret (results_tmp6 rfl _ _ _) rfl ⟨by rw [HV.out]; rfl, HS2.out⟩
        · rw [if_neg (fun h => hm2 h.2.1)] at HV
          go_enter Try.func8, Try.ntmps8
          go_wp2_with fail
          go_quiet (fail)
          have HS2 := Lib.hid (below_drawnN (Below.refl w.heap.size w) nq)
          generalize w.drewN nq = w2 at *
          go_wp2_with fail
          refine bodyPost_ret (results_tmp6 rfl _ _ _) rfl ⟨by rw [HV.out]; rfl, HS2.out⟩
      · rw [if_neg (fun h => h31 h.1)] at HV
        go_enter Try.func8, Try.ntmps8
        go_wp2_with fail
        go_quiet (fail)
        have HS2 := Lib.hid (below_drawnN (Below.refl w.heap.size w) nq)
        generalize w.drewN nq = w2 at *
        go_wp2_with fail
        refine bodyPost_ret (results_tmp6 rfl _ _ _) rfl ⟨by rw [HV.out]; rfl, HS2.out⟩
    by_cases h24 : (L.drop p).getD 0 0 % 32 < 24
    · have HR := hread_small hpos h24
      generalize (L.drop p).getD 0 0 = c at *
      have HV : Hid (hreadV (hread (L.drop p)) p = .tuple #[.int .i64 (c / 32), .int .i64 0, .int .u64 (c % 32), .int .i64 1, .int .i64 (-1), .int .i64 0]) := Lib.hid (by rw [HR]; unfold hreadV; simp)
      clear HR hget hlen hbd hg0 hpos
      go_enter Try.func8, Try.ntmps8
      go_wp2_with fail
      go_quiet (fail)
      have HS2 := Lib.hid (below_drawnN (Below.refl w.heap.size w) nq)
      generalize w.drewN nq = w2 at *
      go_wp2_with fail
      refine bodyPost_ret (results_tmp6 rfl _ _ _) rfl ⟨by rw [HV.out]; rfl, HS2.out⟩
    · have hW := rfl (a := hwid ((L.drop p).getD 0 0 % 32))
      have hwide := ref_Read_wide w B b o cap L p hr hB hb hl hlt _ _ _ _ _ hc hc0 hc1 rfl rfl (by omega) (by omega) rfl rfl
      refine hwide.mono fun e w' h => ⟨?_, h.2⟩
      rw [h.1]
      clear hwide h
      have hd : (L.drop p).drop 1 = L.drop (p + 1) := by rw [List.drop_drop]
      have hwp : 1 ≤ hwid ((L.drop p).getD 0 0 % 32) := by
        rcases hwid_of _ (by omega : 24 ≤ (L.drop p).getD 0 0 % 32) (by omega) with ⟨_, h⟩ | ⟨_, h⟩ | ⟨_, h⟩ | ⟨_, h⟩ <;> omega
      have hcutR := hread_cut (L := L.drop p) hpos (by omega) (by omega)
      have hsimR := hread_simple (L := L.drop p) hpos (by omega) (by omega)
      have hwhR := hread_whole (L := L.drop p) hpos (by omega) (by omega)
      unfold harg at hsimR hwhR
      rw [hd] at hsimR hwhR
      clear hW
      generalize big 18446744073709551616 (pad (L.drop (p + 1)) (hwid ((L.drop p).getD 0 0 % 32)).toNat) = a at *
      generalize hwid ((L.drop p).getD 0 0 % 32) = W at *
      by_cases hcut : (L.length : Int) ≤ p + W
      · rw [if_pos hcut, hcutR (by omega)]
        unfold hreadV hnone R6
        simp only
        rw [if_neg (by omega), show (((L.drop p).length : Nat) : Int) + p = L.length by omega]
      · rw [if_neg hcut]
        by_cases hs : (L.drop p).getD 0 0 / 32 = 7 ∧ W = 1 ∧ a < 32
        · rw [if_pos hs, hsimR (by omega) hs]
          unfold hreadV hnone R6
          simp only
          rw [if_neg (by decide), Int.add_comm]
        · rw [if_neg hs, hwhR (by omega) hs]
          unfold hlong
          cases hshort ((L.drop p).getD 0 0 / 32) W a with
          | true => rfl
          | false =>
            unfold hreadV R6
            simp only [Bool.false_eq_true, if_false]
            rw [if_neg (by omega), Int.add_comm (p : Int)]
  · have hp' : p = L.length := by omega
    have HV : Hid (hreadV (hread (L.drop p)) p = .tuple #[.int .i64 0, .int .i64 0, .int .u64 0, .int .i64 0, .int .i64 (L.length : Int), .int .i64 9]) := Lib.hid (by
      rw [hread_nil (by omega)]; unfold hreadV hnone; simp [hp'])
    clear hget hlen hbd
    go_enter Try.func8, Try.ntmps8
    go_wp2_with fail
    refine bodyPost_ret (results_tmp6 rfl _ _ _) rfl ⟨by rw [HV.out]; rfl, Below.refl _ _⟩
end Go.Proofs.Ytimmgajeflghlaa
