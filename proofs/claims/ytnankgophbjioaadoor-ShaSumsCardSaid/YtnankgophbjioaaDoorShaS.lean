
/- The document's answer: SHA-256 of the whole text. -/
import Derived.Test.YtnankgophbjioaaDoorShaR
import Derived.Test.YtnankgophbjioaaDoorShaPr
import Derived.Test.YtnankgophbjioaaDoorRefA
import Derived.Test.YtnankgophbjioaaDoorTurn
import Derived.Test.YtnankgophbjioaaDoorMask
import Derived.StillTailTactics
import Derived.Deep.RegionHeld3
import Derived.IntWalk
namespace Go.Proofs.YtnankgophbjioaaDoor
open Go.RowKit

theorem make64 (w : World) : (Instr.makeSlice 40 (.int .i64 64) (.int .i64 64)).run Tryd.prog w = .ok (.slice (some ⟨w.heap.size, 0, none⟩) 64 64) (w.alloc (.cells (nums .u32 (pad [] 64)) 30)) := by kernel_rfl
theorem refR (x n : Int) (k : Nat) (hk : (n % 32).toNat = k) (h0 : 0 ≤ x) (h1 : x < 4294967296) (w : World) :
    Calls Tryd.prog 16 #[.int .u32 x, .int .i64 n] w fun e w' => ∃ d, e = .returned (.int .u32 (turned 32 x k)) ∧ w' = w.drewN d := by
  subst hk
  exact refRight32 x n h0 h1 w
theorem sigs_8 (x : Int) : bits BinOp.xor IntKind.u32 (bits BinOp.xor IntKind.u32 (turned 32 x 7) (turned 32 x 18)) (x / 8) = sigs x 7 18 3 := rfl
theorem sigs_1024 (x : Int) : bits BinOp.xor IntKind.u32 (bits BinOp.xor IntKind.u32 (turned 32 x 17) (turned 32 x 19)) (x / 1024) = sigs x 17 19 10 := rfl
theorem sig6 (x : Int) : bits BinOp.xor IntKind.u32 (bits BinOp.xor IntKind.u32 (turned 32 x 6) (turned 32 x 11)) (turned 32 x 25) = sig x 6 11 25 := rfl
theorem sig2 (x : Int) : bits BinOp.xor IntKind.u32 (bits BinOp.xor IntKind.u32 (turned 32 x 2) (turned 32 x 13)) (turned 32 x 22) = sig x 2 13 22 := rfl
/-- One step as the document's answer reckons it. -/
theorem step_eq (a b c d e f g h K W S1 S0 CH MJ : Int) (e1 : sig e 6 11 25 = S1) (e2 : sig a 2 13 22 = S0) (e3 : bits .or .u32 (bits .and .u32 e f) (bits .and .u32 (bits .xor .u32 4294967295 e) g) = CH)
    (e4 : bits .or .u32 (bits .or .u32 (bits .and .u32 a b) (bits .and .u32 a c)) (bits .and .u32 b c) = MJ) :
    stepL ((K + W) % 4294967296) [a, b, c, d, e, f, g, h] = [(h + S1 + CH + K + W + S0 + MJ) % 4294967296, a, b, c, (d + (h + S1 + CH + K + W)) % 4294967296, e, f, g] := by
  have e3' : bits .or .u32 (bits .and .u32 e f) (bits .and .u32 (bits .xor .u32 IntKind.u32.max e) g) = CH := e3
  simp only [stepL, shaT1, shaT2, e1, e2, e3', e4, List.cons.injEq, and_true, true_and]
  constructor <;> omega
/-- The world under one name. -/
theorem gen_world {P : Program} {c : Code} {Q : Exit → Act → World → Prop} {a : Act} {w : World} (h : ∀ wd, wd = w → c.wp P Q a wd) : c.wp P Q a w := h w rfl
def kOf (p : Int) : Int := kf p 35 % 4294967296
theorem kOf_roots : (pl 310).map kOf = rootsL := pl_roots
theorem kOf_range (p : Int) : 0 ≤ kOf p ∧ kOf p < 4294967296 := by unfold kOf; omega
theorem info30 : (Tryd.prog.info? 30).map (fun i => (i.zero, i.size, i.bytes)) = some (some (.int .u32 0), 1, 4) := by kernel_rfl

/- The slots that each of the last five loops writes. -/
abbrev m4 : List Bool := [false, false, false, false, false, false, false, false, false, false, true, true, true, true, true, true, true, true, true, true, true, true, true, true, true, true, true, false, false, false, false, false, false, false, false, false, false, false, false, false, false, false, false, false, false, false, false, false, false, false, false, false, false, false, false, false, false, false, false, false, false, false, false, false, false, false, false, false, false, false, false, false, true, true, true, true, true, true, true, true, true, true, true, true, true, true, true, true, true, true, true, true, true, true, true, true, true, true, true, true, true, true, true, true, true, true, true, true, true, true, true, true, true, true, true, true, true, true, true, true, true, true, true, true, true, true, true, true, true, true, true, true, true, true, true, true, true, true, true, true, true, true, true, true, true, true, true, true, true, true, true, true, true, true, true, true, true, true, true, true, true, true, true, true, true, true, true, true, true, true, true, true, true, true, true, true, true, true, true, true, true, true, true, true, true, true, true, true, true, true, true, true, true, true, true, true, true, true, true, true, true, true, true, true, true, true, true, true, true, true, true, true, true, true, true, true, true, true, true, true, true, true, true, true, true, true, true, true, true, true, true, true, true, true, true, true, true, true, true, true, true, true, true, true, true, true, true, true, true, true, true, true, true, true, true, true, true, true, true, true, true]
abbrev m5 : List Bool := [false, false, false, false, false, false, false, false, false, false, false, false, true, true, true, true, true, false, false, false, false, false, false, false, false, false, false, false, false, false, false, false, false, false, false, false, false, false, false, false, false, false, false, false, false, false, false, false, false, false, false, false, false, false, false, false, false, false, false, false, false, false, false, false, false, false, false, false, false, false, false, false, false, false, false, false, false, false, false, true, true, true, true, true, true, true, true, true, true, true, true, true, true, true, true, true, true, true, true, true, true, true, true, true, true, true, true, true, true, true, true, true, true, true, true, true, true, true, true, true, true, true, true, true, true, true, true, true, true, true, true, true, true, true, true, true, true, true, true]
abbrev m6 : List Bool := [false, false, false, false, false, false, false, false, false, false, false, false, false, false, false, false, false, true, true, true, true, true, true, true, true, true, false, false, false, false, false, false, false, false, false, false, false, false, false, false, false, false, false, false, false, false, false, false, false, false, false, false, false, false, false, false, false, false, false, false, false, false, false, false, false, false, false, false, false, false, false, false, false, false, false, false, false, false, false, false, false, false, false, false, false, false, false, false, false, false, false, false, false, false, false, false, false, false, false, false, false, false, false, false, false, false, false, false, false, false, false, false, false, false, false, false, false, false, false, false, false, false, false, false, false, false, false, false, false, false, false, false, false, false, false, false, false, false, false, false, false, false, true, true, true, true, true, true, true, true, true, true, true, true, true, true, true, true, true, true, true, true, true, true, true, true, true, true, true, true, true, true, true, true, true, true, true, true, true, true, true, true, true, true, true, true, true, true, true, true, true, true, true, true, true, true, true, true, true, true, true, true, true, true, true, true, true, true, true, true, true, true, true, true, true, true, true, true, true, true, true, true, true, true, true, true, true, true, true, true, true, true, true, true, true, true, true, true, true, true, true, true, true, true, true]
abbrev m7 : List Bool := [false, false, false, false, false, false, false, false, false, false, false, false, false, false, false, false, false, false, false, false, false, false, false, false, false, false, true, false, false, false, false, false, false, false, false, false, false, false, false, false, false, false, false, false, false, false, false, false, false, false, false, false, false, false, false, false, false, false, false, false, false, false, false, false, false, false, false, false, false, false, false, false, false, false, false, false, false, false, false, false, false, false, false, false, false, false, false, false, false, false, false, false, false, false, false, false, false, false, false, false, false, false, false, false, false, false, false, false, false, false, false, false, false, false, false, false, false, false, false, false, false, false, false, false, false, false, false, false, false, false, false, false, false, false, false, false, false, false, false, false, false, false, false, false, false, false, false, false, false, false, false, false, false, false, false, false, false, false, false, false, false, false, false, false, false, false, false, false, false, false, false, false, false, false, false, false, false, false, false, false, false, false, false, false, false, false, false, false, false, false, false, false, false, false, false, false, false, false, false, false, false, false, false, false, false, false, false, false, false, false, false, false, false, false, false, false, false, false, false, false, false, false, false, false, false, false, false, false, false, false, false, false, false, false, false, false, false, false, false, false, false, false, false, false, false, true, true, true, true, true, true, true, true, true, true, true, true, true, true, true, true]
abbrev m8 : List Bool := [false, false, false, false, false, false, false, false, false, false, false, false, false, false, false, false, false, false, false, false, false, false, false, false, false, false, false, true, true, false, false, false, false, false, false, false, false, false, false, false, false, false, false, false, false, false, false, false, false, false, false, false, false, false, false, false, false, false, false, false, false, false, false, false, false, false, false, false, false, false, false, false, false, false, false, false, false, false, false, false, false, false, false, false, false, false, false, false, false, false, false, false, false, false, false, false, false, false, false, false, false, false, false, false, false, false, false, false, false, false, false, false, false, false, false, false, false, false, false, false, false, false, false, false, false, false, false, false, false, false, false, false, false, false, false, false, false, false, false, false, false, false, false, false, false, false, false, false, false, false, false, false, false, false, false, false, false, false, false, false, false, false, false, false, false, false, false, false, false, false, false, false, false, false, false, false, false, false, false, false, false, false, false, false, false, false, false, false, false, false, false, false, false, false, false, false, false, false, false, false, false, false, false, false, false, false, false, false, false, false, false, false, false, false, false, false, false, false, false, false, false, false, false, false, false, false, false, false, false, false, false, false, false, false, false, false, false, false, false, false, false, false, false, false, false, false, false, false, false, false, false, false, false, false, false, false, false, false, false, false, false, true, true, true, true, true, true, true, true, true, true, true, true, true, true, true, true, true, true, true, true, true, true, true, true, true, true, true, true, true, true]

set_option maxRecDepth 100000 in
set_option maxHeartbeats 8000000 in
theorem ref_Sum (w : World) (zs : List Int) (A : Option Addr) (cap : Nat) (hl : zs.length ≤ 400) (bz : ByteL zs) (hnil : A = none → cap = 0) (hr : Rd w w.heap.size .u8 A zs) :
    Calls Tryd.prog 8 #[.slice A zs.length cap] w fun e w' => ∃ A cap, e = .returned (.slice A 32 cap) ∧ Rd w' w'.heap.size .u8 A (shaL zs) ∧ Below w.heap.size w w' := by
  obtain ⟨n, en⟩ : ∃ n, zs.length = n := ⟨_, rfl⟩
  have b0 : Blk (w.alloc (.cells #[] 5)) w.heap.size 5 (nums .u8 []) := Blk.fresh _ _ _
  have o0 : Own (w.alloc (.cells #[] 5)) w.heap.size .u8 5 (.slice (some ⟨w.heap.size, 0, none⟩) 0 0) [] := Own.ofBlk b0 (Nat.le_refl _) (by decide)
  obtain ⟨v1, w1, hr1, o1, hb1, _⟩ := run_append_nums (P := Tryd.prog) (ty := 22) (xs := zs) (A := A) (cap := cap) Tryd.underlying22 info5 (by decide) o0 ((hr.below (below_alloc w _)).more (by simp)) hnil (by simp; omega) (by simp)
  rw [List.nil_append] at o1
  have b1 : Blk (w1.alloc (.cells #[.int .u8 128] 5)) w1.heap.size 5 (nums .u8 [128]) := Blk.fresh _ _ _
  have hs1 : w.heap.size ≤ w1.heap.size := by have := hb1.size; simp at this; omega
  obtain ⟨v2, w2, hr2, o2, hb2, _⟩ := run_append_nums (P := Tryd.prog) (ty := 22) (xs := [128]) (cap := 1) Tryd.underlying22 info5 (by decide) (o1.alloc (.cells #[.int .u8 128] 5)) b1.rd (fun h => by cases h) (by simp; omega) (by simp; omega)
  have HB2 : Hid (Below w.heap.size w w2) := ((below_alloc w _).trans hb1).trans (((Below.refl _ _).alloc hs1 _).trans hb2)
  have HR1 := Lib.hid hr1
  rw [show ([128] : List Int).length = 1 from rfl] at hr2
  have HR2 := Lib.hid hr2
  have O2 := Lib.hid o2
  have EN := Lib.hid en
  rw [en] at HR1 hl ⊢
  clear hr1 hr2 o2 o1 o0 b0 b1 hb1 hb2 hs1 en hr
  go_enter Tryd.func8, Tryd.ntmps8
  go_wp2_with (first | ((with_reducible refine is_append 22 rfl ?_); (with_reducible refine wpList_append_run rfl rfl HR1.out ?_ ?_ ?_); (· rfl); (· rfl)) | ((with_reducible refine is_append 22 rfl ?_); (with_reducible refine wpList_append_run rfl rfl HR2.out ?_ ?_ ?_); (· rfl); (· rfl)))
  obtain ⟨z, ez⟩ : ∃ z, ((55 - (n : Int)) % 64).toNat = z := ⟨_, rfl⟩
  have hz64 : z < 64 := by omega
  have EZ := Lib.hid ez
  clear ez
  go_loopw [3] (fun v wr => ∃ j : Nat, j ≤ z ∧ Own wr w.heap.size .u8 5 v (zs ++ 128 :: List.replicate j 0) ∧ Below w.heap.size w wr) (fun v _ => z + n + 1 - sliceLen v)
  case atStart => exact ⟨0, Nat.zero_le _, O2.out, HB2.out⟩
  case round =>
    clear HR1 HR2 O2 HB2
    obtain ⟨j, hj, hown, hb⟩ := hrel
    obtain ⟨A1, c1, rfl, _, _, _, _, h5⟩ := hown.form
    have hlen : (zs ++ 128 :: List.replicate j (0 : Int)).length = n + 1 + j := by rw [List.length_append, List.length_cons, List.length_replicate, EN.out]; omega
    rw [hlen]
    have hzi := zeros_end n j z EZ.out hj
    have hsw : w.heap.size ≤ wr.heap.size := hb.size
    by_cases hjz : j = z
    · have t1 : (((n + 1 + j : Nat) : Int) % 64 != 56) = false := by
        have := hzi.2 hjz
        rw [bne_eq_false_iff_eq]; omega
      clear hzi
      go_wp2_with fail
      have hown' : Own wr w.heap.size .u8 5 (.slice A1 (n + 1 + z) c1) (zs ++ 128 :: List.replicate z 0) := by
        rw [← hjz, ← hlen]; exact hown
      rw [hjz]
      have hl8 : (zs ++ 128 :: List.replicate z (0 : Int)).length = n + 1 + z := by rw [← hjz]; exact hlen
      have HL8 := Lib.hid hl8
      have t1' : (((n : Int) + 1 + z) % 64 != 56) = false := by rw [← t1, hjz]; simp
      rw [t1']
      clear hown hlen hl8 h5 t1 t1' hjz
      have hbe : (le 8 (8 * (n : Int))).reverse.length = 8 := by rw [List.length_reverse, length_le]
      have HBE := Lib.hid hbe
      clear hbe
      have hmul : (n : Int) * 8 = 8 * n := Int.mul_comm _ _
      rw [hmul]
      clear hmul
      go_loopw [3, 5] (fun v i w5 => ∃ k : Nat, k ≤ 8 ∧ i = .int .i64 ((k : Int) - 1) ∧ Own w5 w.heap.size .u8 5 v (zs ++ 128 :: List.replicate z 0 ++ (le 8 (8 * (n : Int))).reverse.take (8 - k)) ∧ Below w.heap.size w w5) (fun _ i _ => (intOf i + 1).toNat)
      case atStart => exact ⟨8, by decide, rfl, by simpa using hown', hb⟩
      case round =>
        clear hown' hb hsw
        obtain ⟨k, hk, rfl, hown, hb⟩ := hrel
        have hsw : w.heap.size ≤ wr.heap.size := hb.size
        rcases k with _ | m
        · rw [Nat.sub_zero, List.take_of_length_le (by rw [HBE.out]; decide)] at hown
          have hpad : zs ++ 128 :: List.replicate z 0 ++ (le 8 (8 * (n : Int))).reverse = padded zs := by
            unfold padded endL
            rw [EN.out, EZ.out, List.append_assoc]
          rw [hpad] at hown
          clear hpad
          obtain ⟨As, cs, rfl, _, _, _, _, hS⟩ := hown.form
          have hbp := byte_padded bz
          have hPm := length_padded zs
          have hPl : (padded zs).length = n + 1 + z + 8 := by unfold padded; rw [List.length_append, EN.out]; unfold endL; rw [EZ.out]; simp [length_le]; omega
          have HSH : Hid (shaL zs = be4s (hs (padded zs) ((padded zs).length / 64))) := rfl
          obtain ⟨P, eP⟩ : ∃ P, padded zs = P := ⟨_, rfl⟩
          rw [eP] at hS hbp hPm hPl HSH hown ⊢
          have hP500 : P.length ≤ 500 := by omega
          clear eP hPl hown
          generalize hPL : P.length = pL at *
          have HPL := Lib.hid hPL
          clear hPL
          go_wp2_with fail
          refine (ref_Primes wr).mono ?_
          rintro e wp ⟨vp, rfl, hpo, hbp2⟩
          have hSp := (hS.below hbp2)
          obtain ⟨Ap, cp, rfl, _, _, _, _, hPr⟩ := hpo.form
          have hbwp : Below w.heap.size w wp := hb.trans (hbp2.mono hb.size)
          have hsz : wr.heap.size ≤ wp.heap.size := hbp2.size
          have h64 := pl_310
          have hplr := pl_range 310
          have HKR := Lib.hid kOf_roots
          clear hpo hbp2 hb hS hsw
          obtain ⟨Q, eQ⟩ : ∃ Q, pl 310 = Q := ⟨_, rfl⟩
          rw [eQ] at h64 hplr HKR hPr ⊢
          rw [h64]
          have H64 := Lib.hid h64
          clear eQ h64
          have hSw : Rd wp wp.heap.size .u8 As P := hSp.more hsz
          clear hSp
          generalize hB : wr.heap.size = Bs at *
          clear hB wr
          go_wp2_with fail
          go_loopw [6, 8] (fun v i wk => ∃ t : Nat, t ≤ 64 ∧ i = .int .i64 t ∧ Own wk wp.heap.size .u32 30 v ((Q.take t).map kOf) ∧ Below wp.heap.size wp wk) (fun _ i _ => 64 - (intOf i).toNat)
          case atStart => exact ⟨0, by decide, rfl, Own.nil _ _ _ _, Below.refl _ _⟩
          case round =>
            obtain ⟨t, ht, rfl, hown, hbk⟩ := hrel
            by_cases hlt : t < 64
            · obtain ⟨bq, oq, rfl, _, hcq⟩ := (hPr.below hbk).get (i := t) (by rw [H64.out]; exact hlt)
              have htQ : t < Q.length := by rw [H64.out]; exact hlt
              have hd := hplr _ (List.getElem_mem htQ)
              have hg : Q.getD t 0 = Q[t] := by simp [List.getD, htQ]
              rw [← hg] at hd
              have HT : Hid ((Q.take t).map kOf ++ [kOf (Q.getD t 0)] = (Q.take (t + 1)).map kOf) := by unfold Hid; rw [take_snoc Q t htQ, List.map_append]; rfl
              have HLT : Hid (((Q.take t).map kOf).length = t) := by unfold Hid; rw [List.length_map, List.length_take, H64.out]; omega
              clear hg hplr htQ
              generalize Q.getD t 0 = d at *
              have HK := Lib.hid (ref_K wr d (by omega) (by omega))
              have hd0 : 0 ≤ kf d 35 % 4294967296 := by omega
              have HOWN := Lib.hid hown
              clear hown
              go_wp2_with fail
              refine HK.out.mono ?_
              rintro e wk ⟨rfl, hbk2⟩
              have hs2 : wp.heap.size ≤ wk.heap.size := Nat.le_trans hbk.size hbk2.size
              have b2 : Blk (wk.alloc (.cells #[.int .u32 (kf d 35 % 4294967296)] 30)) wk.heap.size 30 (nums .u32 [kf d 35 % 4294967296]) := Blk.fresh _ _ _
              obtain ⟨v3, w3, hr3, o3, hb3, _⟩ := run_append_nums (P := Tryd.prog) (ty := 40) (xs := [kf d 35 % 4294967296]) (cap := 1) Tryd.underlying40 info30 (by decide) ((HOWN.out.below hbk2).alloc (.cells #[.int .u32 (kf d 35 % 4294967296)] 30)) b2.rd (fun h => by cases h) (by rw [HLT.out]; simp; omega) (by simp; omega)
              rw [show ([kf d 35 % 4294967296] : List Int).length = 1 from rfl] at hr3
              have HR3 := Lib.hid hr3
              have O3 : Hid (Own w3 wp.heap.size .u32 30 v3 ((Q.take (t + 1)).map kOf)) := by unfold Hid; rw [← HT.out]; exact o3
              have HB3 : Hid (Below wp.heap.size wp w3) := ((hbk.trans (hbk2.mono hbk.size)).alloc hs2 _).trans hb3
              clear hr3 o3 hb3 b2 HOWN hbk hbk2 HK hd hs2
              go_wp2_with ((with_reducible refine is_append 40 rfl ?_); (with_reducible refine wpList_append_run rfl rfl HR3.out ?_ ?_ ?_); (· rfl); (· rfl))
              go_roundw
              case rel => exact ⟨t + 1, by omega, by go_num, O3.out, HB3.out⟩
              case measure => simp [intOf]; omega
            · have hQ : (Q.take t).map kOf = rootsL := by rw [List.take_of_length_le (by rw [H64.out]; omega)]; exact HKR.out
              rw [hQ] at hown
              obtain ⟨Ak, ck, rfl, _, _, _, _, hK⟩ := hown.form
              have hSk : Rd wr wr.heap.size .u8 As P := (hSw.below hbk).more hbk.size
              have hbw : Below w.heap.size w wr := hbwp.trans (hbk.mono hbwp.size)
              clear hown hQ hSw hbwp hbk hPr hplr
              have t0 : decide ((t : Int) < 64) = false := decide_eq_false (by omega)
              rw [show rootsL.length = 64 from rfl]
              have T0 := Lib.hid t0
              clear t0
              go_wp2_with fail
              rw [T0.out]
              have bH : Blk (wr.alloc (.cells (nums .u32 startL) 30)) wr.heap.size 30 (nums .u32 (hs P 0)) := by rw [hs_zero]; exact Blk.fresh _ _ _
              have hbC : Below w.heap.size w (wr.alloc (.cells (nums .u32 startL) 30)) := hbw.alloc hbw.size _
              have hSC : Rd (wr.alloc (.cells (nums .u32 startL) 30)) wr.heap.size .u8 As P := hSk.below (below_alloc _ _)
              have hKC : Rd (wr.alloc (.cells (nums .u32 startL) 30)) wr.heap.size .u32 Ak rootsL := hK.below (below_alloc _ _)
              have hgw : w.heap.size ≤ wr.heap.size := hbw.size
              have hsC : wr.heap.size < (wr.alloc (.cells (nums .u32 startL) 30)).heap.size := by simp
              change Code.wp _ _ _ _ (wr.alloc (.cells (nums .u32 startL) 30))
              clear hSk hK hbw
              generalize wr.alloc (.cells (nums .u32 startL) 30) = wC at *
              generalize wr.heap.size = gh at *
              have hnb : 64 * (pL / 64) = pL := by omega
              refine wp_loop_mask m4 (fun m t wk => ∃ k : Nat, m + 64 * k = pL ∧ t 10 = .int .i64 (64 * (k : Int)) ∧ Blk wk gh 30 (nums .u32 (hs P k)) ∧ Below gh wC wk) pL ⟨0, by omega, rfl, bH, Below.refl _ _⟩ ?_
              · clear bH
                intro n4 t4 wr hrel K4 HK4
                dsimp only [mask, m4, Nat.reduceAdd]
                obtain ⟨k, hm4, e10, bH, hbk⟩ := hrel
                rw [e10]
                clear e10
                have hk : 64 * k ≤ pL := by omega
                by_cases hlk : 64 * k < pL
                · have hlk' : 64 * (k : Int) < pL := by omega
                  have HM := make64
                  have gK : gh < wr.heap.size := bH.lt
                  go_wp2_with fail
                  have bW : Blk (wr.alloc (.cells (nums .u32 (pad [] 64)) 30)) wr.heap.size 30 (nums .u32 (pad (sched (blkAt P k) 0) 64)) := by rw [sched_zero]; exact Blk.fresh _ _ _
                  clear HM
                  refine wp_loop_mask m5 (fun m s w5 => ∃ t : Nat, m + t = 64 ∧ s 12 = .int .i64 t ∧ Blk w5 wr.heap.size 30 (nums .u32 (pad (sched (blkAt P k) t) 64)) ∧ Below wr.heap.size wr w5) 64 ⟨0, rfl, rfl, bW, below_alloc _ _⟩ ?_
                  · clear bW
                    intro n5 t5 wr hrel K5 HK5
                    dsimp only [mask, m5, Nat.reduceAdd]
                    obtain ⟨t, hm5, e12, bW, hb5⟩ := hrel
                    rw [e12]
                    clear e12
                    have ht : t ≤ 64 := by omega
                    by_cases hlt : t < 64
                    · by_cases h16 : t < 16
                      · have hS5 : Rd wr gh .u8 As P := (hSC.below hbk).below (hb5.mono (by omega))
                        have HNUM := refNumberAt wr gh As cs P (64 * k + 4 * t) 4 hS5 hbp (by rw [HPL.out]; omega) (by omega) (by decide)
                        rw [HPL.out, show ((64 * k + 4 * t : Nat) : Int) = 64 * (k : Int) + 4 * (t : Int) by simp, show ((4 : Nat) : Int) = 4 from rfl] at HNUM
                        have HWD := Lib.hid (word_at P hbp k t h16)
                        have HSC := Lib.hid (sched_low (blkAt P k) t h16)
                        have xr := big_range 18446744073709551616 (pad (P.drop (64 * k + 4 * t)) 4) (by decide)
                        have hll : t < (pad (sched (blkAt P k) t) 64).length := by rw [length_pad]; omega
                        have c1 := (bW.cell t).trans (nums_get .u32 _ t hll)
                        have f1 := bW.free t
                        generalize big 18446744073709551616 (pad (P.drop (64 * k + 4 * t)) 4) = x at *
                        generalize word (blkAt P k) t = wd at *
                        have hnew := bW.put t (.int .u32 wd)
                        rw [nums_put, HSC.out] at hnew
                        have hb6 := hb5.setCell (p := ⟨_, t, none⟩) (Nat.le_refl _) (.int .u32 wd)
                        have HN := Lib.hid hnew
                        have HB := Lib.hid hb6
                        have HX := Lib.hid HNUM
                        have hwd := HWD.out
                        clear hnew hb6 HNUM bW hb5 hS5 HSC hll
                        go_wp2_with fail
                        refine HX.out.mono ?_
                        rintro e w6 ⟨rfl, rfl⟩
                        go_wp2_with fail
                        exact HK5.out _ _ (n5 - 1) (by omega) rfl ⟨t + 1, by omega, (show Value.int .i64 ((t : Int) + 1) = .int .i64 ((t + 1 : Nat) : Int) by go_num), HN.out, HB.out⟩
                      · have hL := length_sched (blkAt P k) t
                        have hP : ∀ i, i < 64 → wr.cell? ⟨_, i, none⟩ = some (.int .u32 ((sched (blkAt P k) t).getD i 0)) := fun i hi => by
                          rw [bW.cell, nums_get .u32 _ i (by rw [length_pad]; exact hi), getD_pad _ _ _ hi]
                        have c2 := hP (t - 2) (by omega)
                        have c7 := hP (t - 7) (by omega)
                        have c15 := hP (t - 15) (by omega)
                        have c16 := hP (t - 16) (by omega)
                        have c0 := hP t hlt
                        have r2 := (inL_sched (blkAt P k) t).get (t - 2)
                        have r15 := (inL_sched (blkAt P k) t).get (t - 15)
                        have f0 := bW.free t
                        have E := sched_high (blkAt P k) t (by omega) hlt
                        have hnew := bW.put t (.int .u32 (next (sched (blkAt P k) t) t))
                        rw [nums_put, E] at hnew
                        have hb6 := hb5.setCell (p := ⟨_, t, none⟩) (Nat.le_refl _) (.int .u32 (next (sched (blkAt P k) t) t))
                        unfold next at hnew hb6
                        clear hP hL E
                        generalize (sched (blkAt P k) t).getD (t - 2) 0 = x2 at *
                        generalize (sched (blkAt P k) t).getD (t - 7) 0 = x7 at *
                        generalize (sched (blkAt P k) t).getD (t - 15) 0 = x15 at *
                        generalize (sched (blkAt P k) t).getD (t - 16) 0 = x16 at *
                        generalize (sched (blkAt P k) t).getD t 0 = x0 at *
                        have HN := Lib.hid hnew
                        have HB := Lib.hid hb6
                        clear hnew hb6 bW hb5
                        have t2 : IntKind.i64.wrap ((t : Int) - 2) = ((t - 2 : Nat) : Int) := by rw [IntWalk.i64_in _ (by omega)]; omega
                        have v2 : ((t - 2 : Nat) : Int) < 64 := by omega
                        have t7 : IntKind.i64.wrap ((t : Int) - 7) = ((t - 7 : Nat) : Int) := by rw [IntWalk.i64_in _ (by omega)]; omega
                        have v7 : ((t - 7 : Nat) : Int) < 64 := by omega
                        have t15 : IntKind.i64.wrap ((t : Int) - 15) = ((t - 15 : Nat) : Int) := by rw [IntWalk.i64_in _ (by omega)]; omega
                        have v15 : ((t - 15 : Nat) : Int) < 64 := by omega
                        have t16 : IntKind.i64.wrap ((t : Int) - 16) = ((t - 16 : Nat) : Int) := by rw [IntWalk.i64_in _ (by omega)]; omega
                        have v16 : ((t - 16 : Nat) : Int) < 64 := by omega
                        go_wp2_with fail
                        go_quiet (fail)
                        go_wp2_with (first | (go_at_call 16; ((with_reducible refine (refR x15 7 7 rfl r15.1 r15.2 _).mono ?_); rintro e w' ⟨d1, rfl, rfl⟩)) | (go_at_call 16; ((with_reducible refine (refR x15 18 18 rfl r15.1 r15.2 _).mono ?_); rintro e w' ⟨d2, rfl, rfl⟩)) | (go_at_call 16; ((with_reducible refine (refR x2 17 17 rfl r2.1 r2.2 _).mono ?_); rintro e w' ⟨d3, rfl, rfl⟩)) | (go_at_call 16; ((with_reducible refine (refR x2 19 19 rfl r2.1 r2.2 _).mono ?_); rintro e w' ⟨d4, rfl, rfl⟩)))
                        rw [sigs_8, sigs_1024]
                        generalize sigs x2 17 19 10 = g2 at *
                        generalize sigs x15 7 18 3 = g15 at *
                        generalize hwd : wr.drewN (nq + d1 + d2 + d3 + d4) = wd
                        have k7 : wd.cell? _ = _ := (congrArg (fun w => World.cell? w _) hwd.symm).trans c7
                        have k16 : wd.cell? _ = _ := (congrArg (fun w => World.cell? w _) hwd.symm).trans c16
                        have k0 : wd.cell? _ = _ := (congrArg (fun w => World.cell? w _) hwd.symm).trans c0
                        have kf : wd.frozen? _ = _ := (congrArg (fun w => World.frozen? w _) hwd.symm).trans f0
                        have kN := fun cc vv => congrArg (fun w => World.setCell w cc vv) hwd.symm
                        have HKN := Lib.hid kN
                        clear c2 c7 c15 c16 c0 f0 kN hwd
                        go_still_tail 18, (by kernel_rfl)
                        go_wp2_with fail
                        exact HK5.out _ _ (n5 - 1) (by omega) rfl ⟨t + 1, by omega, (show Value.int .i64 ((t : Int) + 1) = .int .i64 ((t + 1 : Nat) : Int) by go_num), by rw [HKN.out]; exact HN.out, by rw [HKN.out]; exact ⟨HB.out.os, HB.out.tape, HB.out.output, HB.out.size, HB.out.block⟩⟩
                    · have ht64 : t = 64 := by omega
                      have hW : (sched (blkAt P k) t).length = 64 := by rw [length_sched]; exact ht64
                      rw [ht64, pad_sched] at bW
                      rw [ht64] at hW
                      have iW := inL_sched (blkAt P k) 64
                      have EST : Hid (hs P (k + 1) = addL (hs P k) (rounds (sched (blkAt P k) 64) (hs P k) 64)) := hs_succ P k
                      obtain ⟨W, eW⟩ : ∃ W, sched (blkAt P k) 64 = W := ⟨_, rfl⟩
                      rw [eW] at bW hW iW EST
                      have hH8 := length_hs P k
                      have hHI : InL (hs P k) := inL_addL _ _
                      obtain ⟨h0, eh⟩ : ∃ h0, hs P k = h0 := ⟨_, rfl⟩
                      rw [eh] at hH8 hHI EST bH
                      clear eW eh
                      have t0 : decide ((t : Int) < 64) = false := decide_eq_false (by omega)
                      have T0 := Lib.hid t0
                      clear t0 ht64
                      have gB := hb5.size
                      have bH5 : Blk wr gh 30 (nums .u32 h0) := bH.below hb5 gK
                      have b2 : Blk (wr.alloc (.cells #[] 30)) wr.heap.size 30 (nums .u32 []) := Blk.fresh _ _ _
                      have o2 : Own (wr.alloc (.cells #[] 30)) wr.heap.size .u32 30 (.slice (some ⟨wr.heap.size, 0, none⟩) 0 0) [] := Own.ofBlk b2 (Nat.le_refl _) (by decide)
                      obtain ⟨v3, w3, hr3, o3, hb3, _⟩ := run_append_nums (P := Tryd.prog) (ty := 40) (xs := h0) (cap := 8) Tryd.underlying40 info30 (by decide) o2 ((bH5.alloc (.cells #[] 30)).rd) (fun h => by cases h) (by rw [hH8]; decide) (by simp)
                      rw [hH8] at hr3
                      have HR3 := Lib.hid hr3
                      rw [List.nil_append] at o3
                      obtain ⟨Av, cv, ev, _, _, hV⟩ := o3.rdx (g := gh) (by omega)
                      rw [hH8] at ev
                      subst ev
                      have hb6 : Below wr.heap.size wr w3 := (below_alloc wr _).trans hb3
                      have bH6 := bH5.below hb6 bH5.lt
                      have bW6 := bW.below hb6 bW.lt
                      have gW := bW.lt
                      have hb7 := hb5.trans (hb6.mono hb5.size)
                      clear hr3 o3 o2 b2 hb3 bH5 bW hb6 bH
                      go_wp2_with ((with_reducible refine is_append 40 rfl ?_); (with_reducible refine wpList_append_run rfl rfl HR3.out ?_ ?_ ?_); (· rfl); (· rfl))
                      rw [T0.out]
                      have hK3 : Rd w3 gh .u32 Ak rootsL := (hKC.below hbk).below (hb7.mono (by omega))
                      have gv3 : gh < w3.heap.size := bH6.lt
                      have HB7 := Lib.hid hb7
                      have BH6 := Lib.hid bH6
                      clear hb7 bH6 hb5
                      refine wp_loop_mask m6 (fun m s wk => ∃ (t : Nat) (Av : Option Addr) (cv : Nat), m + t = 64 ∧ s 18 = .int .i64 t ∧ s 17 = .slice Av 8 cv ∧ RdX wk gh .u32 Av (rounds W h0 t) ∧ Below w3.heap.size w3 wk) 64 ⟨0, Av, cv, rfl, rfl, rfl, by rw [rounds_zero]; exact hV, Below.refl _ _⟩ ?_
                      · clear hV
                        intro n6 t6 wr hrel K6 HK6
                        dsimp only [mask, m6, Nat.reduceAdd]
                        obtain ⟨t, Av, cv, hm6, e18, e17, hV, hb8⟩ := hrel
                        rw [e18, e17]
                        clear e18 e17
                        have ht : t ≤ 64 := by omega
                        by_cases hlt : t < 64
                        · have hlen : (rounds W h0 t).length = 8 := by rw [length_rounds]; exact hH8
                          have hinl := inL_rounds W h0 hHI t
                          have E := Lib.hid (rounds_succ W h0 t)
                          obtain ⟨bk, ok, rfl, _, ck⟩ := (hK3.below (hb8.mono (by omega))).get (i := t) (by rw [show rootsL.length = 64 from rfl]; exact hlt)
                          have cW : wr.cell? _ = _ := ((bW6.below hb8 bW6.lt).cell t).trans (nums_get .u32 W t (by rw [hW]; exact hlt))
                          generalize rootsL.getD t 0 = kt at *
                          generalize W.getD t 0 = wt at *
                          obtain ⟨V, eV⟩ : ∃ V, rounds W h0 t = V := ⟨_, rfl⟩
                          rw [eV] at hlen hinl hV E
                          clear eV
                          obtain ⟨bv, ov, rfl, hbg, hbv, cv8⟩ := hV (by omega)
                          obtain ⟨a, b, c, d, e, f, g, h, rfl⟩ := length8 hlen
                          have q0 : wr.cell? ⟨bv, ov, none⟩ = some (.int .u32 a) := cv8 0 (by simp)
                          have q1 : wr.cell? ⟨bv, ov + 1, none⟩ = some (.int .u32 b) := cv8 1 (by simp)
                          have q2 : wr.cell? ⟨bv, ov + 2, none⟩ = some (.int .u32 c) := cv8 2 (by simp)
                          have q3 : wr.cell? ⟨bv, ov + 3, none⟩ = some (.int .u32 d) := cv8 3 (by simp)
                          have q4 : wr.cell? ⟨bv, ov + 4, none⟩ = some (.int .u32 e) := cv8 4 (by simp)
                          have q5 : wr.cell? ⟨bv, ov + 5, none⟩ = some (.int .u32 f) := cv8 5 (by simp)
                          have q6 : wr.cell? ⟨bv, ov + 6, none⟩ = some (.int .u32 g) := cv8 6 (by simp)
                          have q7 : wr.cell? ⟨bv, ov + 7, none⟩ = some (.int .u32 h) := cv8 7 (by simp)
                          have ra := hinl a (by simp)
                          have re := hinl e (by simp)
                          obtain ⟨S1, eS1⟩ : ∃ S1, sig e 6 11 25 = S1 := ⟨_, rfl⟩
                          obtain ⟨S0, eS0⟩ : ∃ S0, sig a 2 13 22 = S0 := ⟨_, rfl⟩
                          obtain ⟨CH, eCH⟩ : ∃ CH, bits .or .u32 (bits .and .u32 e f) (bits .and .u32 (bits .xor .u32 4294967295 e) g) = CH := ⟨_, rfl⟩
                          obtain ⟨MJ, eMJ⟩ : ∃ MJ, bits .or .u32 (bits .or .u32 (bits .and .u32 a b) (bits .and .u32 a c)) (bits .and .u32 b c) = MJ := ⟨_, rfl⟩
                          have EST2 := step_eq a b c d e f g h kt wt S1 S0 CH MJ eS1 eS0 eCH eMJ
                          rw [EST2] at E
                          have ES1 := Lib.hid eS1
                          have ES0 := Lib.hid eS0
                          have ECH := Lib.hid eCH
                          have EMJ := Lib.hid eMJ
                          clear EST2 eS1 eS0 eCH eMJ cv8 hinl hlen
                          have HB8 := Lib.hid hb8
                          clear hb8
                          go_wp2_with fail
                          go_quiet (fail)
                          go_wp2_with (first | (go_at_call 16; ((with_reducible refine (refR e 6 6 rfl re.1 re.2 _).mono ?_); rintro ee w' ⟨d1, rfl, rfl⟩)) | (go_at_call 16; ((with_reducible refine (refR e 11 11 rfl re.1 re.2 _).mono ?_); rintro ee w' ⟨d2, rfl, rfl⟩)) | (go_at_call 16; ((with_reducible refine (refR e 25 25 rfl re.1 re.2 _).mono ?_); rintro ee w' ⟨d3, rfl, rfl⟩)))
                          rw [sig6, ES1.out]
                          go_quiet (fail)
                          rw [ECH.out]
                          go_wp2_with fail
                          go_quiet (fail)
                          go_wp2_with (first | (go_at_call 16; ((with_reducible refine (refR a 2 2 rfl ra.1 ra.2 _).mono ?_); rintro ee w' ⟨d4, rfl, rfl⟩)) | (go_at_call 16; ((with_reducible refine (refR a 13 13 rfl ra.1 ra.2 _).mono ?_); rintro ee w' ⟨d5, rfl, rfl⟩)) | (go_at_call 16; ((with_reducible refine (refR a 22 22 rfl ra.1 ra.2 _).mono ?_); rintro ee w' ⟨d6, rfl, rfl⟩)))
                          rw [sig2, ES0.out]
                          go_quiet (fail)
                          rw [EMJ.out]
                          go_wp2_with fail
                          refine gen_world ?_
                          intro wd hwd
                          have p0 : wd.cell? ⟨bv, ov, none⟩ = some (.int .u32 a) := by rw [hwd]; exact q0
                          have p1 : wd.cell? ⟨bv, ov + 1, none⟩ = some (.int .u32 b) := by rw [hwd]; exact q1
                          have p2 : wd.cell? ⟨bv, ov + 2, none⟩ = some (.int .u32 c) := by rw [hwd]; exact q2
                          have p3 : wd.cell? ⟨bv, ov + 3, none⟩ = some (.int .u32 d) := by rw [hwd]; exact q3
                          have p4 : wd.cell? ⟨bv, ov + 4, none⟩ = some (.int .u32 e) := by rw [hwd]; exact q4
                          have p5 : wd.cell? ⟨bv, ov + 5, none⟩ = some (.int .u32 f) := by rw [hwd]; exact q5
                          have p6 : wd.cell? ⟨bv, ov + 6, none⟩ = some (.int .u32 g) := by rw [hwd]; exact q6
                          have p7 : wd.cell? ⟨bv, ov + 7, none⟩ = some (.int .u32 h) := by rw [hwd]; exact q7
                          have hbd : Below w3.heap.size w3 wd := by rw [hwd]; exact ⟨HB8.out.os, HB8.out.tape, HB8.out.output, HB8.out.size, HB8.out.block⟩
                          have HBD := Lib.hid hbd
                          clear hbd hwd q0 q1 q2 q3 q4 q5 q6 q7 ck cW hV
                          go_still_tail 28, (by kernel_rfl)
                          go_wp2_with fail
                          have b9 : Blk (wd.alloc (.cells #[.int .u32 ((h + S1 + CH + kt + wt + S0 + MJ) % 4294967296), .int .u32 a, .int .u32 b, .int .u32 c, .int .u32 ((d + (h + S1 + CH + kt + wt)) % 4294967296), .int .u32 e, .int .u32 f, .int .u32 g] 30)) wd.heap.size 30 (nums .u32 (rounds W h0 (t + 1))) := by rw [E.out]; exact Blk.fresh _ _ _
                          have hgd : gh ≠ wd.heap.size := by have := HBD.out.size; omega
                          exact HK6.out _ _ (n6 - 1) (by omega) rfl ⟨t + 1, _, _, by omega, (show Value.int .i64 ((t : Int) + 1) = .int .i64 ((t + 1 : Nat) : Int) by go_num), rfl, b9.rdx (fun e => hgd e.symm), below_drawn (HBD.out.alloc HBD.out.size _)⟩
                        · have ht64 : t = 64 := by omega
                          have hS8 : (rounds W h0 64).length = 8 := by rw [length_rounds]; exact hH8
                          rw [ht64] at hV
                          obtain ⟨S, eS⟩ : ∃ S, rounds W h0 64 = S := ⟨_, rfl⟩
                          rw [eS] at hV hS8 EST
                          have T1 : Hid (decide ((t : Int) < 64) = false) := decide_eq_false (by omega)
                          clear ht64 eS
                          have bH9 := BH6.out.below hb8 gv3
                          have hU : (addL h0 S).length = h0.length := length_addL _ _ (by rw [hH8, hS8])
                          obtain ⟨bv, ov, rfl, hbg, hbv, cv8⟩ := hV (by omega)
                          clear hV
                          go_wp2_with fail
                          rw [T1.out]
                          refine wp_loop_mask m7 (fun m s wk => ∃ t : Nat, m + t = 8 ∧ s 26 = .int .i64 t ∧ Blk wk gh 30 (nums .u32 (upto (addL h0 S) h0 t)) ∧ Only gh wr wk) 8 ⟨0, rfl, rfl, by rw [upto_zero]; exact bH9, Only.refl _ _⟩ ?_
                          · clear bH9
                            intro n7 t7 wr hrel K7 HK7
                            dsimp only [mask, m7, Nat.reduceAdd]
                            obtain ⟨i, hm7, e26, bH, ho⟩ := hrel
                            rw [e26]
                            clear e26
                            have hi : i ≤ 8 := by omega
                            by_cases hli : i < 8
                            · have hl : (upto (addL h0 S) h0 i).length = 8 := by rw [length_upto _ _ _ hU]; exact hH8
                              have cv' := cv8 i (by omega)
                              have cS : wr.cell? ⟨bv, ov + i, none⟩ = some (.int .u32 (S.getD i 0)) := by
                                rw [← cv']
                                simp [World.cell?, ho.block bv hbv (fun e => hbg (by injection e))]
                              have cH : wr.cell? ⟨gh, i, none⟩ = some (.int .u32 (h0.getD i 0)) := by
                                rw [bH.cell, nums_get .u32 _ i (by omega), getD_upto_ge _ _ _ _ hU (Nat.le_refl _) (by omega)]
                              have fH := bH.free i
                              have hnew := bH.put i (.int .u32 ((h0.getD i 0 + S.getD i 0) % 4294967296))
                              rw [nums_put, ← getD_addL _ _ _ (by omega) (by omega), upto_set _ _ _ hU (by omega), getD_addL _ _ _ (by omega) (by omega)] at hnew
                              have HX := Lib.hid (And.intro hnew (ho.put i (.int .u32 ((h0.getD i 0 + S.getD i 0) % 4294967296))))
                              clear bH hnew ho hl cv' cv8
                              generalize h0.getD i 0 = x at *
                              generalize S.getD i 0 = y at *
                              go_wp2_with fail
                              go_still_tail 12, (by kernel_rfl)
                              go_wp2_with fail
                              exact HK7.out _ _ (n7 - 1) (by omega) rfl ⟨i + 1, by omega, (show Value.int .i64 ((i : Int) + 1) = .int .i64 ((i + 1 : Nat) : Int) by go_num), HX.out.1, HX.out.2.drew⟩
                            · have hi8 : i = h0.length := by omega
                              rw [hi8, upto_all _ _ hU, ← EST.out] at bH
                              have hbe : Below gh wC wr := ((hbk.trans (HB7.out.mono (by omega))).trans (hb8.mono (by omega))).trans (ho.below (Nat.le_refl _) (by have := hb8.size; omega))
                              have BH := Lib.hid bH
                              have HBE := Lib.hid hbe
                              clear bH hbe ho hi8 hU cv8 hb8 hbk HB7 BH6
                              go_wp2_with fail
                              exact HK4.out _ _ (n4 - 64) (by omega) rfl ⟨k + 1, by omega, (show Value.int .i64 (64 * (k : Int) + 64) = .int .i64 (64 * ((k + 1 : Nat) : Int)) by go_num), BH.out, HBE.out⟩
                · have hkn : 64 * k = pL := by omega
                  have hkd : pL / 64 = k := by omega
                  have hSH : shaL zs = be4s (hs P k) := by rw [HSH.out, hkd]
                  have hH8 := length_hs P k
                  have hHI : InL (hs P k) := inL_addL _ _
                  obtain ⟨h0, eh⟩ : ∃ h0, hs P k = h0 := ⟨_, rfl⟩
                  rw [eh] at bH hSH hH8 hHI
                  have HSHF := Lib.hid hSH
                  have hkl : decide (64 * (k : Int) < pL) = false := decide_eq_false (by omega)
                  have gK : gh < wr.heap.size := bH.lt
                  have hbW : Below w.heap.size w wr := hbC.trans (hbk.mono (by omega))
                  clear eh hSH hkd hkn HSH hbk hSC hKC
                  go_wp2_with fail
                  refine wp_loop_mask m8 (fun m s wk => ∃ t : Nat, m + t = 8 ∧ s 28 = .int .i64 t ∧ Own wk wr.heap.size .u8 5 (s 27) (be4s (h0.take t)) ∧ Below wr.heap.size wr wk) 8 ⟨0, rfl, rfl, Own.nil _ _ _ _, Below.refl _ _⟩ ?_
                  · intro n8 t8 wr hrel K8 HK8
                    dsimp only [mask, m8, Nat.reduceAdd]
                    obtain ⟨i, hm8, e28, hown, hb9⟩ := hrel
                    rw [e28]
                    clear e28
                    have hi : i ≤ 8 := by omega
                    generalize t8 27 = v27 at *
                    by_cases hli : i < 8
                    · have cH : wr.cell? ⟨gh, i, none⟩ = _ := ((bH.below hb9 gK).cell i).trans (nums_get .u32 h0 i (by omega))
                      have HB4 := Lib.hid (be4s_take h0 i (by omega))
                      have hlb : (be4s (h0.take i)).length = 4 * i := by rw [length_be4s, List.length_take]; omega
                      have rx := hHI.get i
                      generalize h0.getD i 0 = x at *
                      rw [be4_eq' x rx.1 rx.2, show ([x / 16777216, x / 65536 % 256, x / 256 % 256, x % 256] : List Int) = [IntKind.u8.wrap (x / 16777216), IntKind.u8.wrap (x / 65536), IntKind.u8.wrap (x / 256), IntKind.u8.wrap x] by simp only [IntKind.wrap_u8, List.cons.injEq, and_true]; omega] at HB4
                      obtain ⟨Ao, co, rfl, _, _, _, _, _⟩ := hown.form
                      rw [hlb]
                      have gs := hb9.size
                      have b2 : Blk (wr.alloc (.cells #[.int .u8 (IntKind.u8.wrap (x / 16777216)), .int .u8 (IntKind.u8.wrap (x / 65536)), .int .u8 (IntKind.u8.wrap (x / 256)), .int .u8 (IntKind.u8.wrap x)] 5)).drew wr.heap.size 5 (nums .u8 [IntKind.u8.wrap (x / 16777216), IntKind.u8.wrap (x / 65536), IntKind.u8.wrap (x / 256), IntKind.u8.wrap x]) := Blk.fresh wr _ _
                      obtain ⟨v3, w3, hr3, o3, hb3, _⟩ := run_append_nums (P := Tryd.prog) (ty := 22) (xs := [IntKind.u8.wrap (x / 16777216), IntKind.u8.wrap (x / 65536), IntKind.u8.wrap (x / 256), IntKind.u8.wrap x]) (cap := 4) Tryd.underlying22 info5 (by decide) (hown.alloc (.cells #[.int .u8 (IntKind.u8.wrap (x / 16777216)), .int .u8 (IntKind.u8.wrap (x / 65536)), .int .u8 (IntKind.u8.wrap (x / 256)), .int .u8 (IntKind.u8.wrap x)] 5)).drew b2.rd (fun h => by cases h) (by rw [hlb]; simp; omega) (by show _ ≤ (wr.heap.push _).size; simp; omega)
                      rw [hlb, show ([IntKind.u8.wrap (x / 16777216), IntKind.u8.wrap (x / 65536), IntKind.u8.wrap (x / 256), IntKind.u8.wrap x] : List Int).length = 4 from rfl] at hr3
                      rw [HB4.out] at o3
                      have cH3 : w3.cell? ⟨gh, i, none⟩ = some (.int .u32 x) := (hb3.cell (p := ⟨gh, i, none⟩) (show gh < _ by omega)).trans (((Below.refl _ wr).alloc (Nat.le_refl _) _).cell (p := ⟨gh, i, none⟩) (show gh < _ by omega) |>.trans cH)
                      have HR3 := Lib.hid hr3
                      have O3 := Lib.hid o3
                      have HB3 := Lib.hid ((below_drawn (hb9.alloc gs (.cells #[.int .u8 (IntKind.u8.wrap (x / 16777216)), .int .u8 (IntKind.u8.wrap (x / 65536)), .int .u8 (IntKind.u8.wrap (x / 256)), .int .u8 (IntKind.u8.wrap x)] 5))).trans hb3)
                      clear hr3 o3 hb3 b2 hown hlb hb9 gs
                      go_wp2_with fail
                      go_region_held3 (fun w' => w'.cell? ⟨gh, i, none⟩ = some (.int .u32 x)) (first | go_keep | exact cH3) ((refine step_append_run rfl rfl HR3.out rfl rfl ?_))
                      go_wp2_with fail
                      exact HK8.out _ _ (n8 - 1) (by omega) rfl ⟨i + 1, by omega, (show Value.int .i64 ((i : Int) + 1) = .int .i64 ((i + 1 : Nat) : Int) by go_num), O3.out, HB3.out⟩
                    · have hi8 : h0.take i = h0 := List.take_of_length_le (by omega)
                      rw [hi8] at hown
                      obtain ⟨Ao, co, rfl, _, _, _, _, hR⟩ := hown.form
                      rw [← HSHF.out] at hR
                      have hl32 : (be4s h0).length = 32 := by rw [length_be4s, hH8]
                      rw [hl32]
                      have HRR := Lib.hid hR
                      have HBB : Hid (Below w.heap.size w wr) := hbW.trans (hb9.mono hbW.size)
                      clear hown hR hb9 hbW hi8
                      go_wp2_with fail
                      go_ret
                      exact ⟨Ao, co, rfl, HRR.out, HBB.out⟩
        · have hbs := be8_step (8 * (n : Int)) m (by omega)
          rw [show ((m + 1 : Nat) : Int) - 1 = m by omega]
          have hx0 : (0 : Int) ≤ 8 * n := by omega
          have hsh : (8 * (n : Int)) / 2 ^ (8 * m) = 8 * (n : Int) / 256 ^ m := by
            rw [Int.pow_mul]; rfl
          have hq0 : (0 : Int) ≤ 8 * (n : Int) / 256 ^ m := Int.ediv_nonneg hx0 (Int.le_of_lt (Int.pow_pos (by decide)))
          have hq1 : 8 * (n : Int) / 256 ^ m ≤ 8 * n := Int.ediv_le_self _ hx0
          obtain ⟨A1, c1, rfl, _, _, _, _, _⟩ := hown.form
          have hlen : (zs ++ 128 :: List.replicate z (0 : Int) ++ (le 8 (8 * (n : Int))).reverse.take (8 - (m + 1))).length = n + 1 + z + (8 - (m + 1)) := by
            rw [List.length_append, HL8.out, List.length_take, HBE.out]; omega
          rw [hlen]
          obtain ⟨q, eq⟩ : ∃ q, 8 * (n : Int) / 256 ^ m = q := ⟨_, rfl⟩
          rw [eq] at hbs hsh hq0 hq1
          clear eq
          have b2 : Blk (wr.alloc (.cells #[.int .u8 (q % 256)] 5)) wr.heap.size 5 (nums .u8 [q % 256]) := Blk.fresh _ _ _
          obtain ⟨v3, w3, hr3, o3, hb3, _⟩ := run_append_nums (P := Tryd.prog) (ty := 22) (xs := [q % 256]) (cap := 1) Tryd.underlying22 info5 (by decide) (hown.alloc (.cells #[.int .u8 (q % 256)] 5)) b2.rd (fun h => by cases h) (by rw [hlen]; simp; omega) (by simp; omega)
          rw [hlen, show ([q % 256] : List Int).length = 1 from rfl] at hr3
          rw [List.append_assoc _ _ [q % 256], hbs] at o3
          have HR3 := Lib.hid hr3
          have O3 := Lib.hid o3
          have HB3 : Hid (Below w.heap.size w w3) := (hb.alloc hsw _).trans hb3
          clear hr3 o3 hb3 b2 hown hlen hb hbs hsw
          go_wp2_with ((with_reducible refine is_append 22 rfl ?_); (with_reducible refine wpList_append_run rfl rfl HR3.out ?_ ?_ ?_); (· rfl); (· rfl))
          go_roundw
          case rel => exact ⟨m, by omega, rfl, O3.out, HB3.out⟩
          case measure => simp [intOf]
    · have t1 : (((n + 1 + j : Nat) : Int) % 64 != 56) = true := by
        have : ¬ (n + 1 + j) % 64 = 56 := fun h => hjz (hzi.1 h)
        rw [bne_iff_ne]; omega
      have b2 : Blk (wr.alloc (.cells #[.int .u8 0] 5)) wr.heap.size 5 (nums .u8 [0]) := Blk.fresh _ _ _
      obtain ⟨v3, w3, hr3, o3, hb3, _⟩ := run_append_nums (P := Tryd.prog) (ty := 22) (xs := [0]) (cap := 1) Tryd.underlying22 info5 (by decide) (hown.alloc (.cells #[.int .u8 0] 5)) b2.rd (fun h => by cases h) (by rw [hlen]; simp; omega) (by simp; omega)
      rw [hlen] at hr3
      rw [show ([0] : List Int).length = 1 from rfl] at hr3
      have HR3 := Lib.hid hr3
      have O3 := Lib.hid o3
      have HB3 : Hid (Below w.heap.size w w3) := (hb.alloc hsw _).trans hb3
      have HLEN := Lib.hid hlen
      clear hr3 o3 hb3 b2 hown h5 hzi hlen hb
      go_wp2_with ((with_reducible refine is_append 22 rfl ?_); (with_reducible refine wpList_append_run rfl rfl HR3.out ?_ ?_ ?_); (· rfl); (· rfl))
      obtain ⟨A3, c3, rfl, _, _, _, _, _⟩ := O3.out.form
      have hrep : zs ++ 128 :: List.replicate j (0 : Int) ++ [0] = zs ++ 128 :: List.replicate (j + 1) 0 := by
        rw [List.append_assoc, List.cons_append, ← List.replicate_succ']
      have hl3 : (zs ++ 128 :: List.replicate j (0 : Int) ++ [0]).length = n + 1 + j + 1 := by rw [List.length_append, HLEN.out]; rfl
      rw [hl3]
      have HL3 := Lib.hid hl3
      have HREP := Lib.hid hrep
      clear hl3 hrep
      go_roundw
      case rel => exact ⟨j + 1, by omega, by rw [← HREP.out, ← HL3.out]; exact O3.out, HB3.out⟩
      case measure => simp [sliceLen]; omega
end Go.Proofs.YtnankgophbjioaaDoor
