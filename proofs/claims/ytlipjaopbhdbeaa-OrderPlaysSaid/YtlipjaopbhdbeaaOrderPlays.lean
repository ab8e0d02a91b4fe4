
/-
  PROVED: the law OrderPlays returns true for every number and every slice of numbers, and leaves its arguments as they were (Rows.OrderPlaysSaid). Conditions: none beside the row's own.
-/
import Derived.Test.YtlipjaopbhdbeaaOrdV
import Derived.Test.YtlipjaopbhdbeaaLaw
import Derived.WalkKit
import Derived.ProofKit
import Derived.OpenShut
namespace Go.Proofs.Ytlipjaopbhdbeaa.orderPlays
open Go.ChangeShapes Go.WideShapes Go.ChangeAt Go.RowKit

/-- What both hold, and where. -/
structure Nb (B g gx p q : Nat) (a b a' : List Int) (e : Bool) : Prop where
  hg : B ≤ g
  hx : B ≤ gx
  hp : B ≤ p
  hq : B ≤ q
  ng : gx ≠ g
  np : gx ≠ p
  nq : gx ≠ q
  ba : ByteL a
  bb : ByteL b
  ba' : ByteL a'
  la' : a'.length ≤ 1024
  same : e = true → a' = a
theorem Nb.more {B g gx p q : Nat} {a b a' : List Int} {e : Bool} (h : Nb B g gx p q a b a' e) {c : Int} (h0 : 0 ≤ c) (h1 : c < 256) : Nb B g gx p q a (b ++ [c]) a' e :=
  ⟨h.hg, h.hx, h.hp, h.hq, h.ng, h.np, h.nq, h.ba, byte_append h.bb (fun x hx => by rw [List.mem_singleton] at hx; omega), h.ba', h.la', h.same⟩
theorem Nb.ended {B g gx p q : Nat} {a b a' : List Int} {e : Bool} (h : Nb B g gx p q a b a' e) (hb : b.length ≤ 1024) : Nb B g gx q p b [] b true :=
  ⟨h.hg, h.hx, h.hq, h.hp, h.ng, h.nq, h.np, h.bb, (fun x hx => by cases hx), h.bb, hb, fun _ => rfl⟩
theorem Nb.anew {B g gx gy p q : Nat} {a b a' : List Int} {e : Bool} (h : Nb B g gx p q a b a' e) (hx : B ≤ gy) (ng : gy ≠ g) (np : gy ≠ p) (nq : gy ≠ q) : Nb B g gy p q a [] [] false :=
  ⟨h.hg, hx, h.hp, h.hq, ng, np, nq, h.ba, (fun x hx => by cases hx), (fun x hx => by cases hx), by simp, fun h => by cases h⟩
theorem Nb.ahead {B g gx p q : Nat} {a b a' : List Int} {e : Bool} (h : Nb B g gx p q a b a' e) : (!e || ahead a' b) = (!e || ahead a b) := by
  cases e
  · rfl
  · rw [h.same rfl]

set_option maxHeartbeats 2000000 in
set_option maxRecDepth 100000 in
theorem walk (w : World) (a0 : Int) (b0 : -9223372036854775808 ≤ a0 ∧ a0 ≤ 9223372036854775807) (A : Option Addr) (cap : Nat) (zs : List Int) (_hcap : zs.length ≤ cap) (hr : Rd w w.heap.size .u16 A zs) (hz : ∀ n ∈ zs, (Lit.int .u16 n).wf = true) :
    Calls Try.prog 4 #[.int .i64 a0, .slice A zs.length cap] w fun e w' => e = .returned (.bool true) ∧ Below w.heap.size w w' := by
  obtain ⟨m, hm⟩ : ∃ m : Nat, min (max a0 0) 1024 = m := ⟨(min (max a0 0) 1024).toNat, by omega⟩
  have hm' : m ≤ 1024 := by omega
  have HA := Lib.hid (order_awake w)
  have HNew := Lib.hid (fun w => order_New w a0 m hm)
  have HRN := Lib.hid (fun w => ref_New w a0 m hm)
  have HRZ := Lib.hid hr
  have HZ : Hid (∀ k, k < zs.length → 0 ≤ zs.getD k 0 ∧ zs.getD k 0 < 65536) := fun k hk => by
    have h1 : zs.getD k 0 ∈ zs := by rw [List.getD_eq_getElem?_getD, List.getElem?_eq_getElem hk]; exact List.getElem_mem hk
    have h2 : 0 ≤ zs.getD k 0 ∧ zs.getD k 0 ≤ 65535 := by simpa [Lit.wf, IntKind.min, IntKind.max, IntKind.bits, IntKind.signed] using hz _ h1
    omega
  clear hr hz hm b0
  go_enter Try.func4, Try.ntmps4
  go_wp2_with fail
  refine HA.out.mono ?_
  rintro e w1 ⟨rfl, S1⟩
  clear HA
  by_cases hs : 500 < zs.length
  · go_wp2_with fail
    go_ret
    exact ⟨rfl, S1⟩
  have S1 := Lib.hid S1
  go_wp2_with fail
  refine (HNew.out _).mono ?_
  rintro e w2 ⟨g, p, q, rfl, hg, hp, hq, K2, S2⟩
  have K2 := Lib.hid K2
  have S2 := Lib.hid (S1.out.trans (S2.mono S1.out.size))
  go_wp2_with fail
  refine (HRN.out _).mono ?_
  rintro e w3 ⟨rfl, R3, S3⟩
  have K3 := Lib.hid (K2.out.on S3)
  have HN : Hid (Nb w.heap.size g w2.heap.size p q [] [] [] false) := ⟨Nat.le_trans S1.out.size hg, S2.out.size, Nat.le_trans S1.out.size hp, Nat.le_trans S1.out.size hq, by have := K2.out.blk.lt; omega, by have := K2.out.lp; omega, by have := K2.out.lq; omega, (fun x hx => by cases hx), (fun x hx => by cases hx), (fun x hx => by cases hx), by simp, fun _ => rfl⟩
  have HS3 := Lib.hid (S2.out.trans (S3.mono S2.out.size))
  clear S3
  have cm := Blk.cell R3 3
  simp only [List.getElem?_toArray, List.getElem?_cons_zero, List.getElem?_cons_succ] at cm
  have R3 := Lib.hid R3
  have HCp := Lib.hid (order_Cap w3 g p q m [] [] false K3.out)
  generalize w2.heap.size = gx at *
  clear S1 S2 K2 hg hp hq HNew
  go_wp2_with fail
  refine HCp.out.mono ?_
  rintro e w4 ⟨rfl, rfl⟩
  go_wp2_with fail
  clear cm HCp
  go_loopw [6, 8] (fun x i wr => ∃ k : Nat, k ≤ zs.length ∧ i = .int .i64 k ∧ ∃ (gx p q : Nat) (a b a' : List Int) (e : Bool), x = .pointer (some ⟨gx, 0, none⟩) ∧ Hid (Ks wr g p q m a b e) ∧ Hid (Rk wr gx m a' b e) ∧ Hid (Nb w.heap.size g gx p q a b a' e) ∧ Hid (Below w.heap.size w wr)) (fun _ i _ => zs.length - (intOf i).toNat)
  case atStart => exact ⟨0, Nat.zero_le _, rfl, gx, p, q, [], [], [], false, rfl, K3, R3, HN, HS3⟩
  case round =>
    clear K3 R3 HN HS3
    obtain ⟨k, hk, rfl, gx, p, q, a, b, a', e, rfl, HK, HR, HN, HBW⟩ := hrel
    by_cases hlt : k < zs.length
    · obtain ⟨bl, o, rfl, hbb, hcell⟩ := (HRZ.out.below HBW.out).get hlt
      have hz := HZ.out k hlt
      have HLK := Lib.hid (fun (wy : World) (hy : Below w.heap.size w wy) => (HRZ.out.below hy).get hlt)
      generalize zs.getD k 0 = z at *
      obtain ⟨z0, z1⟩ := hz
      by_cases h1 : z < 256
      · have wz : IntKind.u8.wrap z = z := by rw [IntKind.wrap_u8]; omega
        have HD := Lib.hid (show Below w.heap.size w wr.drew from below_drawn HBW.out)
        have HK := Lib.hid (HK.out.on (w' := wr.drew) (below_drawn (Below.refl _ _)))
        have HR := Lib.hid (show Rk wr.drew gx m a' b e from HR.out)
        have HBW := HD
        by_cases hl : b.length < m
        · have HC := Lib.hid (fun w' k => order_Byte w' g p q m a b e z k hl)
          have HC2 := Lib.hid (fun w' k => ref_Byte w' gx m a' b e z k hl hm')
          obtain ⟨bl5, o5, e5, _, hcd⟩ := HLK.out _ HD.out
          injection e5 with e5
          injection e5 with e51 e52
          subst e51
          subst e52
          have HN2 := Lib.hid (HN.out.more z0 h1)
          go_wp2_with fail
          go_region_with (first
            | (go_at_call 15; refine (HC.out _ HK.out).mono ?_; rintro e5 wn ⟨rfl, K5, T5⟩; have HR := Lib.hid (T5.on HR.out HN.out.ng HN.out.np HN.out.nq); have HK := Lib.hid K5; have HBW := Lib.hid (HBW.out.trans (T5.below HBW.out.size HN.out.hg HN.out.hp HN.out.hq)); obtain ⟨bl5, o5, e5, _, hcell⟩ := HLK.out _ HBW.out; injection e5 with e5; injection e5 with e51 e52; subst e51; subst e52; clear K5 T5)
            | (go_at_call 16; refine (HC2.out _ HR.out).mono ?_; rintro e5 wn ⟨rfl, R5, T5⟩; have HK := Lib.hid (HK.out.only T5 (fun e => HN.out.ng e.symm) (fun e => HN.out.np e.symm) (fun e => HN.out.nq e.symm)); have HR := Lib.hid R5; have HBW := Lib.hid (HBW.out.trans (T5.below HN.out.hx HBW.out.size)); obtain ⟨bl5, o5, e5, _, hcell⟩ := HLK.out _ HBW.out; injection e5 with e5; injection e5 with e51 e52; subst e51; subst e52; clear R5 T5))
          all_goals
            clear HLK HZ HRZ HRN HC HC2 HD hcd HN
            have HN := HN2
            have hsz : ((strOfNums (b ++ [z])).size : Int) = ((b ++ [z]).length : Int) := by rw [strOfNums_size]
            have HLn := Lib.hid (fun n => order_Len (wn.drewN n) g p q m a (b ++ [z]) e (HK.out.on (below_drawnN (Below.refl _ _) n)))
            have HCp := Lib.hid (fun n => order_Cap (wn.drewN n) g p q m a (b ++ [z]) e (HK.out.on (below_drawnN (Below.refl _ _) n)))
            have cn := Blk.cell HR.out 1
            simp only [List.getElem?_toArray, List.getElem?_cons_zero, List.getElem?_cons_succ] at cn
            generalize strOfNums (b ++ [z]) = tn at cn hsz
            generalize ((b ++ [z]).length : Int) = bl at HLn hsz
            go_wp2_with fail
            go_quiet (first | (with_reducible exact Calls.quiet_of_same (HLn.out _)) | (with_reducible exact Calls.quiet_of_same (HCp.out _)))
            go_wp2_with fail
            go_roundw
            case rel => exact ⟨k + 1, by omega, by go_num, _, p, q, a, b ++ [z], _, e, rfl, Lib.hid (HK.out.on (below_drawnN (Below.refl _ _) _)), Lib.hid (HR.out.drewN _), HN, Lib.hid (below_drawnN HBW.out _)⟩
            case measure => simp [intOf]; omega
        · have hl : b.length = m := by have := HK.out.le2; omega
          have HC := Lib.hid (fun w' k => order_Byte_full w' g p q m a b e z k hl)
          have HC2 := Lib.hid (fun w' k => ref_Byte_full w' gx m a' b e z k hl)
          obtain ⟨bl5, o5, e5, _, hcd⟩ := HLK.out _ HD.out
          injection e5 with e5
          injection e5 with e51 e52
          subst e51
          subst e52
          have HN2 := Lib.hid HN.out
          go_wp2_with fail
          go_region_with (first
            | (go_at_call 15; refine (HC.out _ HK.out).mono ?_; rintro e5 wn ⟨rfl, K5, T5⟩; have HR := Lib.hid (T5.on HR.out HN.out.ng HN.out.np HN.out.nq); have HK := Lib.hid K5; have HBW := Lib.hid (HBW.out.trans (T5.below HBW.out.size HN.out.hg HN.out.hp HN.out.hq)); obtain ⟨bl5, o5, e5, _, hcell⟩ := HLK.out _ HBW.out; injection e5 with e5; injection e5 with e51 e52; subst e51; subst e52; clear K5 T5)
            | (go_at_call 16; refine (HC2.out _ HR.out).mono ?_; rintro e5 wn ⟨rfl, R5, T5⟩; have HK := Lib.hid (HK.out.only T5 (fun e => HN.out.ng e.symm) (fun e => HN.out.np e.symm) (fun e => HN.out.nq e.symm)); have HR := Lib.hid R5; have HBW := Lib.hid (HBW.out.trans (T5.below HN.out.hx HBW.out.size)); obtain ⟨bl5, o5, e5, _, hcell⟩ := HLK.out _ HBW.out; injection e5 with e5; injection e5 with e51 e52; subst e51; subst e52; clear R5 T5))
          all_goals
            clear HLK HZ HRZ HRN HC HC2 HD hcd HN
            have HN := HN2
            have hsz : ((strOfNums (b)).size : Int) = ((b).length : Int) := by rw [strOfNums_size]
            have HLn := Lib.hid (fun n => order_Len (wn.drewN n) g p q m a (b) e (HK.out.on (below_drawnN (Below.refl _ _) n)))
            have HCp := Lib.hid (fun n => order_Cap (wn.drewN n) g p q m a (b) e (HK.out.on (below_drawnN (Below.refl _ _) n)))
            have cn := Blk.cell HR.out 1
            simp only [List.getElem?_toArray, List.getElem?_cons_zero, List.getElem?_cons_succ] at cn
            generalize strOfNums (b) = tn at cn hsz
            generalize ((b).length : Int) = bl at HLn hsz
            go_wp2_with fail
            go_quiet (first | (with_reducible exact Calls.quiet_of_same (HLn.out _)) | (with_reducible exact Calls.quiet_of_same (HCp.out _)))
            go_wp2_with fail
            go_roundw
            case rel => exact ⟨k + 1, by omega, by go_num, _, p, q, a, b, _, e, rfl, Lib.hid (HK.out.on (below_drawnN (Below.refl _ _) _)), Lib.hid (HR.out.drewN _), HN, Lib.hid (below_drawnN HBW.out _)⟩
            case measure => simp [intOf]; omega
      by_cases h2 : z = 256
      · subst h2
        have HE1 := Lib.hid (order_End wr g p q m a b e HK.out HN.out.ba HN.out.bb)
        have HE2 := Lib.hid (fun w' k => ref_End w' gx m a' b e k HN.out.ba' HN.out.bb HN.out.la' (Nat.le_trans HK.out.le2 hm'))
        rw [HN.out.ahead] at HE2
        have HN2 := Lib.hid (HN.out.ended (Nat.le_trans HK.out.le2 hm'))
        generalize (!e || ahead a b) = r at HE1 HE2
        cases r
        all_goals
          go_wp2_with fail
          refine HE1.out.mono ?_
          rintro e5 w5 ⟨rfl, K5, T5⟩
          have HR := Lib.hid (T5.on HR.out HN.out.ng HN.out.np HN.out.nq)
          have HBW := Lib.hid (HBW.out.trans (T5.below HBW.out.size HN.out.hg HN.out.hp HN.out.hq))
          have HK := Lib.hid K5
          clear K5 T5 HE1
          go_wp2_with fail
          refine (HE2.out _ HR.out).mono ?_
          rintro e6 wn ⟨rfl, R6, T6⟩
          have HK := Lib.hid (HK.out.only T6 (fun e => HN.out.ng e.symm) (fun e => HN.out.nq e.symm) (fun e => HN.out.np e.symm))
          have HR := Lib.hid R6
          have HBW := Lib.hid (HBW.out.trans (T6.below HN.out.hx HBW.out.size))
          clear R6 T6 HE2 HLK HZ HRZ HRN HN
          have HN := HN2
          have hsz : ((strOfNums (([] : List Int))).size : Int) = ((([] : List Int)).length : Int) := by rw [strOfNums_size]
          have HLn := Lib.hid (fun n => order_Len (wn.drewN n) g q p m b (([] : List Int)) true (HK.out.on (below_drawnN (Below.refl _ _) n)))
          have HCp := Lib.hid (fun n => order_Cap (wn.drewN n) g q p m b (([] : List Int)) true (HK.out.on (below_drawnN (Below.refl _ _) n)))
          have cn := Blk.cell HR.out 1
          simp only [List.getElem?_toArray, List.getElem?_cons_zero, List.getElem?_cons_succ] at cn
          generalize strOfNums (([] : List Int)) = tn at cn hsz
          generalize ((([] : List Int)).length : Int) = bl at HLn hsz
          go_wp2_with fail
          go_quiet (first | (with_reducible exact Calls.quiet_of_same (HLn.out _)) | (with_reducible exact Calls.quiet_of_same (HCp.out _)))
          go_wp2_with fail
          go_roundw
          case rel => exact ⟨k + 1, by omega, by go_num, _, q, p, b, ([] : List Int), _, true, rfl, Lib.hid (HK.out.on (below_drawnN (Below.refl _ _) _)), Lib.hid (HR.out.drewN _), HN, Lib.hid (below_drawnN HBW.out _)⟩
          case measure => simp [intOf]; omega
      by_cases h3 : z = 257
      · subst h3
        have HE1 := Lib.hid (order_Reset wr g p q m a b e HK.out)
        go_wp2_with fail
        refine HE1.out.mono ?_
        rintro e5 w5 ⟨rfl, K5, T5⟩
        have HBW := Lib.hid (HBW.out.trans (T5.below HBW.out.size HN.out.hg HN.out.hp HN.out.hq))
        have HK := Lib.hid K5
        clear K5 T5 HE1
        go_wp2_with fail
        refine (HRN.out _).mono ?_
        rintro e6 wn ⟨rfl, R6, T6⟩
        have HN2 : Hid (Nb w.heap.size g w5.heap.size p q a [] [] false) := HN.out.anew HBW.out.size (by have := HK.out.blk.lt; omega) (by have := HK.out.lp; omega) (by have := HK.out.lq; omega)
        have HK := Lib.hid (HK.out.on T6)
        have HR := Lib.hid R6
        have HBW := Lib.hid (HBW.out.trans (T6.mono HBW.out.size))
        clear R6 T6 HLK HZ HRZ HRN HN
        have HN := HN2
        have hsz : ((strOfNums (([] : List Int))).size : Int) = ((([] : List Int)).length : Int) := by rw [strOfNums_size]
        have HLn := Lib.hid (fun n => order_Len (wn.drewN n) g p q m a (([] : List Int)) false (HK.out.on (below_drawnN (Below.refl _ _) n)))
        have HCp := Lib.hid (fun n => order_Cap (wn.drewN n) g p q m a (([] : List Int)) false (HK.out.on (below_drawnN (Below.refl _ _) n)))
        have cn := Blk.cell HR.out 1
        simp only [List.getElem?_toArray, List.getElem?_cons_zero, List.getElem?_cons_succ] at cn
        generalize strOfNums (([] : List Int)) = tn at cn hsz
        generalize ((([] : List Int)).length : Int) = bl at HLn hsz
        go_wp2_with fail
        go_quiet (first | (with_reducible exact Calls.quiet_of_same (HLn.out _)) | (with_reducible exact Calls.quiet_of_same (HCp.out _)))
        go_wp2_with fail
        go_roundw
        case rel => exact ⟨k + 1, by omega, by go_num, _, p, q, a, ([] : List Int), _, false, rfl, Lib.hid (HK.out.on (below_drawnN (Below.refl _ _) _)), Lib.hid (HR.out.drewN _), HN, Lib.hid (below_drawnN HBW.out _)⟩
        case measure => simp [intOf]; omega
      · obtain ⟨wn, rfl⟩ : ∃ wn, wn = wr := ⟨_, rfl⟩
        clear HLK HZ HRZ HRN
        have hsz : ((strOfNums (b)).size : Int) = ((b).length : Int) := by rw [strOfNums_size]
        have HLn := Lib.hid (fun n => order_Len (wn.drewN n) g p q m a (b) e (HK.out.on (below_drawnN (Below.refl _ _) n)))
        have HCp := Lib.hid (fun n => order_Cap (wn.drewN n) g p q m a (b) e (HK.out.on (below_drawnN (Below.refl _ _) n)))
        have cn := Blk.cell HR.out 1
        simp only [List.getElem?_toArray, List.getElem?_cons_zero, List.getElem?_cons_succ] at cn
        generalize strOfNums (b) = tn at cn hsz
        generalize ((b).length : Int) = bl at HLn hsz
        go_wp2_with fail
        go_quiet (first | (with_reducible exact Calls.quiet_of_same (HLn.out _)) | (with_reducible exact Calls.quiet_of_same (HCp.out _)))
        go_wp2_with fail
        go_roundw
        case rel => exact ⟨k + 1, by omega, by go_num, _, p, q, a, b, _, e, rfl, Lib.hid (HK.out.on (below_drawnN (Below.refl _ _) _)), Lib.hid (HR.out.drewN _), HN, Lib.hid (below_drawnN HBW.out _)⟩
        case measure => simp [intOf]; omega
    · go_wp2_with fail
      go_ret
      exact ⟨rfl, HBW.out⟩

theorem own : ownKnob Try.prog.godebug = none := by kernel_rfl
theorem laidOut : laidOutB Try.prog = true := by kernel_rfl
theorem cells_uint16 : Try.prog.cellsOf 42 = 1 := by kernel_rfl
set_option maxRecDepth 100000 in
theorem lifted (os : Os) (started : os.Started) (H : Type) (enc : TypeId × Value → H) :
    ReturnsInHanded {} Try.checked os 4 .any (Rows.orderPlaysSpec.pre6 enc Try.prog Try.f4 Rows.orderPlaysRow.domain false) (Rows.orderPlaysSpec.post enc Try.prog Try.f4 false true false false) := by
  refine returnsInHanded_of_change (C := Try.checked) own started (by kernel_rfl) Try.func4
    (ChangeSpec.witness6 (enc := enc) (C := Try.checked) false ⟨#[], #[.int .i64 0, .slice none 0 0], []⟩ 8 (by kernel_rfl) (by kernel_rfl) (by kernel_rfl) (by kernel_rfl)) ?_
  intro W base args ds gs before hval0 hW _ _
  have hval : ∀ (j : Nat) t v, Try.f4.params[j]? = some t → args[j]? = some v → Value.okWide Try.prog W .any base t v := hval0
  have hlt := hW.lt
  have hW' := hW
  obtain ⟨p, q, hA0, hV, hpq, _, _⟩ := hW
  have hA : DataW.TrodAll enc Try.prog W 0 (fun _ => true) true Try.f4.params.toList args.toList ds p := hA0
  rw [Try.params4] at hA hval
  obtain ⟨v0, vs0, d0, ds0, p0, q0, hargs, rfl, rfl, h0, r0⟩ := trodAll_cons hA
  obtain ⟨v1, vs1, d1, ds1, p1, q1, rfl, rfl, rfl, h1, r1⟩ := trodAll_cons r0
  obtain ⟨rfl, rfl, rfl⟩ := trodAll_nil r1
  obtain rfl : args = #[v0, v1] := by cases args; simp_all
  obtain ⟨rfl, rfl⟩ := trodVars_none hV
  obtain ⟨a0, rfl, rfl, rfl, w0⟩ := open_int Try.underlying3 (hval 0 3 v0 rfl rfl) h0
  have b0 : -9223372036854775808 ≤ a0 ∧ a0 ≤ 9223372036854775807 := by simpa [Lit.wf, IntKind.min, IntKind.max, IntKind.bits, IntKind.signed] using w0
  obtain ⟨A1, cap1, zs1, rfl, hl1, hcap1, hnil1, hr1, hw1⟩ := open_nums' Try.underlying34 Try.underlying42 cells_uint16 (hval 1 34 v1 rfl rfl) h1 (fun x hx => hlt x (by rw [hpq]; simp [hx]))
  have hz1 := hw1
  refine (walk W a0 b0 A1 cap1 zs1 hcap1 hr1 hz1).mono fun e W' ⟨he, hbl⟩ => ?_
  subst he
  exact ⟨_, rfl, law_post laidOut (by kernel_rfl) rfl (by kernel_rfl) Try.underlying4 rfl rfl rfl hW' hbl⟩

theorem over : Rows.orderPlaysRow.holds Try.pinned (OpenSpec.ofChange Rows.orderPlaysSpec) :=
  OpenClaim.holds_of_wide 4 Try.f4 rfl rfl rfl rfl rfl rfl rfl ⟨rfl, rfl, rfl, rfl, rfl⟩ rfl rfl rfl rfl rfl (by kernel_rfl) Try.func4 (by kernel_rfl)
    (of_decide_eq_true (by kernel_rfl)) (by unfold Func.isWrapper; first | (rw [if_pos (by decide +kernel)]; kernel_rfl) | (rw [if_neg (by decide +kernel)]; exact ⟨rfl, rfl⟩))
    (fun os started H enc _ => lifted os started H enc)

/-- The statement. -/
theorem proved : Rows.OrderPlaysSaid := over
#print axioms proved
end Go.Proofs.Ytlipjaopbhdbeaa.orderPlays

