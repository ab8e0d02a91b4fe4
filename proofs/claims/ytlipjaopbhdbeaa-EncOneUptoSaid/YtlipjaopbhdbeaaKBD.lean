/- Package enc: how pairs are held against each other. -/
import Derived.Test.YtlipjaopbhdbeaaKAE
import Derived.Test.YtlipjaopbhdbeaaKBB
import Derived.Test.YtlipjaopbhdbeaaKBC
import Derived.Test.YtlipjaopbhdbeaaKAB
import Derived.Shelf.SlGeneric
import Derived.Ground.SlsfProg
import Derived.Shelf.SlLaysF0
import Derived.Shelf.SlLaysF
import Derived.Test.YtlipjaopbhdbeaaProg
import Derived.Test.YtlipjaopbhdbeaaKAT
import Derived.Shelf.SlSortCmp.WholeK
namespace Go.Proofs.Ytlipjaopbhdbeaa
open Go.RowKit Go.Sort

/-- What rising's comparison reads: nothing of it lies in block p. -/
structure Ck (W : World) (p gk gi : Nat) (K : Nat) (A : Option Addr) (cap : Nat) (l : List It) : Prop where
  bk : Blk W gk 70 #[.slice (some ⟨K, 0, none⟩) (l.length / 2) (l.length / 2)]
  bi : Blk W gi 23 #[.slice A l.length cap]
  nk : gk ≠ p
  ni : gi ≠ p
  nK : K ≠ p
  lK : 0 < l.length / 2 → K < W.heap.size
  le : l.length ≤ cap
  nil : A = none → cap = 0
  at_ : AtL W (· ≠ p) l A
  keys : ∀ (i : Nat) (a : It), i < l.length / 2 → l[2 * i]? = some a → ∃ Ai ci, W.cell? ⟨K, i, none⟩ = some (.slice Ai a.enc.length ci) ∧ RdX W p .u8 Ai a.enc
theorem Ck.only {W W' : World} {p gk gi K cap : Nat} {A : Option Addr} {l : List It} (h : Ck W p gk gi K A cap l) (ho : Only p W W') : Ck W' p gk gi K A cap l := by
  refine ⟨h.bk.only ho h.nk, h.bi.only ho h.ni, h.nk, h.ni, h.nK, fun hn => Nat.lt_of_lt_of_le (h.lK hn) ho.size, h.le, h.nil, AtL.keep (fun b hb hl => ho.block b hl (fun e => hb (by injection e))) (fun _ h => h) _ _ h.at_, fun i a hi ha => ?_⟩
  obtain ⟨Ai, ci, h1, h2⟩ := h.keys i a hi ha
  exact ⟨Ai, ci, cell_kept' (ho.block K (h.lK (by omega)) (fun e => h.nK (by injection e))) h1, h2.only ho⟩
theorem byteL_append {a b : List Int} (h : ByteL a) (k : ByteL b) : ByteL (a ++ b) := fun c hc => (List.mem_append.1 hc).elim (h c) (k c)
theorem byte_hd {t : It} (h : okTop t) : ByteL (hdK t.k t.n t.s.size t.l.length) := by
  obtain ⟨_, _, h0, h1, _, _⟩ := h
  unfold hdK
  split
  · obtain ⟨z, v, hs⟩ := shortest_ex t.n.toNat (by omega)
    rw [fhead_of hs]
    exact byte_lay (by omega) (by omega) (.inr (by have := sh_wid hs; omega))
  · split
    · exact byte_put (by omega) (by omega) (by omega)
    · split
      · exact byte_put (by omega) (by omega) (by omega)
      · split
        · exact byte_put (by omega) (by omega) (by omega)
        · exact byte_put (by omega) (by omega) h0
theorem byte_text (s : ByteArray) : ByteL (sbytes s) := fun c hc => by
  unfold sbytes at hc
  obtain ⟨b, _, rfl⟩ := List.mem_map.1 hc
  have := b.toNat_lt
  omega
mutual
theorem byte_enc (x : It) (h : x.okE) : ByteL x.enc := by
  obtain ⟨k, n, s, l⟩ := x
  rw [It.okE] at h
  rw [It.enc]
  exact byteL_append (byte_hd h.1) (byteL_append (byte_text s) (byte_encL l h.2))
theorem byte_encL (l : List It) (h : okEL l) : ByteL (encL l) := by
  cases l with
  | nil => intro c hc; simp [encL] at hc
  | cons x r =>
    rw [okEL] at h
    rw [encL]
    exact byteL_append (byte_enc x h.1) (byte_encL r h.2)
end
theorem bulk_mem_le {t : It} {l : List It} (h : t ∈ l) : t.bulk ≤ bulkL l := by
  induction l with
  | nil => cases h
  | cons x r ih =>
    simp only [bulkL]
    rcases List.mem_cons.1 h with rfl | h
    · omega
    · have := ih h; omega
theorem Own.rdW {w : World} {B : Nat} {A : Option Addr} {n cap : Nat} {zs : List Int} (h : Own w B .u8 5 (.slice A n cap) zs) : Rd w w.heap.size .u8 A zs := by
  obtain ⟨A', c', hv, _, _, _, _, hr⟩ := h.form
  injection hv with e1 e2 e3
  rw [e1]
  exact hr
theorem Rd.drewQ {w : World} {A : Option Addr} {zs : List Int} (h : Rd w w.heap.size .u8 A zs) (q : Nat) : Rd (w.drewN q) (w.drewN q).heap.size .u8 A zs := h
/-- The encoding of an item in memory, laid for itself. -/
theorem lay_alone {x : It} {A : Option Addr} {cap n : Nat} {W : World} (hok : x.okE) (hb : x.bulk ≤ 1099511627776) (hn : n ≤ W.heap.size) (h : AtB W n x A cap) :
    Calls Try.prog 26 #[.slice none 0 0, .agg #[.int .i64 x.k, .int .u64 x.n, .string x.s, .slice A x.l.length cap]] W fun e w' => ∃ Av cv, e = .returned (.slice Av x.enc.length cv) ∧ Own w' W.heap.size .u8 5 (.slice Av x.enc.length cv) x.enc ∧ Below W.heap.size W w' := by
  refine (enc_lay x.count x A cap n W.heap.size (.slice none 0 0) [] W (Nat.le_refl _) hok (by simpa using hb) h (Own.nil _ _ _ _) hn (Nat.le_refl _)).mono ?_
  rintro e w' ⟨v', rfl, ho, hbl⟩
  rw [List.nil_append] at ho
  obtain ⟨Av, cv, rfl, _, _, _, _, _⟩ := ho.form
  exact ⟨Av, cv, rfl, ho, hbl⟩

set_option maxRecDepth 100000 in
set_option maxHeartbeats 4000000 in
theorem rising_cmp {W : World} {p gk gi K cap : Nat} {A : Option Addr} {l : List It} (ck : Ck W p gk gi K A cap l) (hok : okEL l) (hbk : bulkL l ≤ 1099511627776) {i j : Nat} {a b a' b' : It} (hi : i < l.length / 2) (hj : j < l.length / 2)
    (ha : l[2 * i]? = some a) (hb : l[2 * i + 1]? = some b) (ha' : l[2 * j]? = some a') (hb' : l[2 * j + 1]? = some b') :
    Calls Try.prog 43 #[.int .i64 (i : Int), .int .i64 (j : Int), .pointer (some ⟨gk, 0, none⟩), .pointer (some ⟨gi, 0, none⟩)] W fun e w' => e = .returned (.int .i64 (pcmp (a, b) (a', b'))) ∧ Below W.heap.size W w' := by
  obtain ⟨A1, c1, k1, r1⟩ := ck.keys i a hi ha
  obtain ⟨A2, c2, k2, r2⟩ := ck.keys j a' hj ha'
  have hka : W.cell? ⟨gk, 0, none⟩ = some (.slice (some ⟨K, 0, none⟩) (l.length / 2) (l.length / 2)) := by rw [ck.bk.cell]; rfl
  have hia : W.cell? ⟨gi, 0, none⟩ = some (.slice A l.length cap) := by rw [ck.bi.cell]; rfl
  have mem : ∀ {q : Nat} {t : It}, l[q]? = some t → t ∈ l := fun h => List.mem_of_getElem? h
  have hoa := okEL_iff.1 hok a (mem ha)
  have hoa' := okEL_iff.1 hok a' (mem ha')
  have hob := okEL_iff.1 hok b (mem hb)
  have hob' := okEL_iff.1 hok b' (mem hb')
  have C1 := fun q => bytes_compare A1 A2 c1 c2 a.enc a'.enc (W.drewN q) (Rd.drewQ r1.rd q) (Rd.drewQ r2.rd q) (byte_enc a hoa) (byte_enc a' hoa')
  have HC1 := Lib.hid C1
  obtain ⟨z, hz⟩ : ∃ z, seqC intC a.enc a'.enc = z := ⟨_, rfl⟩
  have hpc : pcmp (a, b) (a', b') = if z ≠ 0 then z else seqC intC b.enc b'.enc := by unfold pcmp thenC; simp only [hz]
  rw [hz] at HC1
  rw [hpc]
  have hml := bulk_length l
  have HCK := Lib.hid ck
  have HOB := Lib.hid (And.intro hob hob')
  have HIB := Lib.hid (And.intro hb hb')
  have HBK := Lib.hid (fun _ : Unit => hbk)
  have hil : (l[2 * i + 1]? = some b) := hb
  have hi2 : 2 * i + 1 < l.length := by omega
  have hj2 : 2 * j + 1 < l.length := by omega
  have HI2 := Lib.hid (And.intro hi2 hj2)
  obtain ⟨nn, hnn⟩ : ∃ nn, l.length / 2 = nn := ⟨_, rfl⟩
  obtain ⟨m, hm⟩ : ∃ m, l.length = m := ⟨_, rfl⟩
  rw [hnn] at hka hi hj
  rw [hm] at hia
  have HM := Lib.hid hm
  have hii : (i : Int) < nn := by omega
  have hji : (j : Int) < nn := by omega
  generalize a.enc.length = la at *
  generalize a'.enc.length = la' at *
  clear C1 r1 r2 hoa hoa' hob hob' hpc hz ck hok hbk ha hb ha' hb' hil hml hi2 hj2 hm mem
  go_enter Try.func43, Try.ntmps43
  go_wp2_with fail
  go_quiet (with_reducible exact Calls.quiet_of_same (HC1.out _))
  have hb1 : Below W.heap.size W (W.drewN nq) := below_drawnN (Below.refl _ _) nq
  have HB1 := Lib.hid hb1
  have HCK1 := Lib.hid (HCK.out.only (Only.ofBelow hb1))
  have hia1 : (W.drewN nq).cell? ⟨gi, 0, none⟩ = some (.slice A m cap) := hia
  clear hb1 hia k1 k2 hka HC1
  generalize W.drewN nq = W1 at *
  by_cases hz0 : z = 0
  · subst hz0
    have hV : AtB W1 W1.heap.size (.mk 0 0 ⟨#[]⟩ l) A cap := AtV.toB ⟨HCK1.out.le, HCK1.out.nil, HCK1.out.at_.more fun _ _ => trivial⟩
    obtain ⟨b1, o1, X, Ax, cx, eA, -, -, hX, -, x0, x1, x2, x3, hx⟩ := hV.item (i := 2 * i + 1) HI2.out.1
    obtain ⟨b2, o2, Y, Ay, cy, eA2, -, -, hY, -, y0, y1, y2, y3, hy⟩ := hV.item (i := 2 * j + 1) HI2.out.2
    subst eA
    injection eA2 with eA2
    injection eA2 with e1 e2
    subst e1 e2
    obtain rfl : b = X := by
      have h1 : l[2 * i + 1]? = some X := hX
      rw [HIB.out.1] at h1
      injection h1
    obtain rfl : b' = Y := by
      have h1 : l[2 * j + 1]? = some Y := hY
      rw [HIB.out.2] at h1
      injection h1
    have hbb : b.bulk ≤ 1099511627776 := Nat.le_trans (bulk_mem_le (List.mem_of_getElem? HIB.out.1)) (HBK.out ())
    have hbb' : b'.bulk ≤ 1099511627776 := Nat.le_trans (bulk_mem_le (List.mem_of_getElem? HIB.out.2)) (HBK.out ())
    have HL1 := Lib.hid (fun W' (hb : Below W1.heap.size W1 W') => lay_alone HOB.out.1 hbb hb.size (hx.keep hb))
    have HL2 := Lib.hid (fun W' (hb : Below W1.heap.size W1 W') => lay_alone HOB.out.2 hbb' hb.size (hy.keep hb))
    obtain ⟨u, hu⟩ : ∃ u, 2 * i + 1 = u := ⟨_, rfl⟩
    obtain ⟨v, hv⟩ : ∃ v, 2 * j + 1 = v := ⟨_, rfl⟩
    have hmb : m < 1099511627777 := by have h1 := bulk_length l; have h2 := HBK.out (); have := HM.out; omega
    have hum : (u : Int) < m := by have := HI2.out.1; have := HM.out; omega
    have hvm : (v : Int) < m := by have := HI2.out.2; have := HM.out; omega
    have q1 : IntKind.i64.wrap (2 * (i : Int)) = 2 * (i : Int) := by rw [IntWalk.i64_in _ (by omega)]
    have q2 : IntKind.i64.wrap (2 * (i : Int) + 1) = (u : Int) := by rw [IntWalk.i64_in _ (by omega)]; omega
    have q3 : IntKind.i64.wrap (2 * (j : Int)) = 2 * (j : Int) := by rw [IntWalk.i64_in _ (by omega)]
    have q4 : IntKind.i64.wrap (2 * (j : Int) + 1) = (v : Int) := by rw [IntWalk.i64_in _ (by omega)]; omega
    have HEB := Lib.hid (And.intro (byte_enc b HOB.out.1) (byte_enc b' HOB.out.2))
    have HD := Lib.hid (show Below W1.heap.size W1 W1.drew from (Below.refl _ _).drew)
    have HIA := Lib.hid (And.intro (block_lt_of_cell hia1) (block_lt_of_cell y0))
    rw [hu] at x0 x1 x2 x3
    rw [hv] at y0 y1 y2 y3
    have hfol : Try.prog.follows Departure.mixedOrders = true := by kernel_rfl
    clear hX hY hV hx hy hbb hbb' hmb hi hj hii hji hnn hu hv
    go_wp2_with fail
    go_region_with (first
      | (go_at_call 26; refine (HL1.out _ HD.out).mono ?_; clear HL1; rintro e w5 ⟨Av, cv, rfl, ho, hb⟩; have hb5 := HD.out.trans hb; have g0 := (hb5.cell (p := ⟨gi, 0, none⟩) HIA.out.1).trans hia1; have g1 := (hb5.cell (p := ⟨b1, o1 + v * 4, none⟩) HIA.out.2).trans y0; have g2 := (hb5.cell (p := ⟨b1, o1 + v * 4 + 1, none⟩) HIA.out.2).trans y1; have g3 := (hb5.cell (p := ⟨b1, o1 + v * 4 + 2, none⟩) HIA.out.2).trans y2; have g4 := (hb5.cell (p := ⟨b1, o1 + v * 4 + 3, none⟩) HIA.out.2).trans y3; have HO1 := Lib.hid ho; have HB5 := Lib.hid hb5; clear ho hb hb5)
      | (go_at_call 26; refine (HL2.out _ HB5.out).mono ?_; clear HL2; rintro e w6 ⟨Aw, cw, rfl, ho, hb⟩; have HC2 := Lib.hid (bytes_compare Av Aw cv cw b.enc b'.enc w6 ((HO1.out.below hb).rdW) ho.rdW HEB.out.1 HEB.out.2); have HB6 := Lib.hid (HB5.out.trans (hb.mono HB5.out.size)); clear ho hb)
      | (go_at_call 28; refine HC2.out.mono ?_; rintro e w7 ⟨rfl, rfl⟩))
    all_goals
      go_wp2_with fail
      go_ret
      exact ⟨by simp, HB1.out.trans (HB6.out.mono HB1.out.size)⟩
  · have hz' : (z != 0) = true := by simp [hz0]
    have HZ0 := Lib.hid hz0
    clear hz0
    go_wp2_with fail
    go_ret
    exact ⟨by simp, HB1.out⟩
end Go.Proofs.Ytlipjaopbhdbeaa

/- Where the library's bodies lie in this program. -/
namespace Go.Proofs.Ytlipjaopbhdbeaa
open Go.Shelf
def Try.sortItems_ren : Go.Shelf.Ren := ⟨fun | 6 => 47 | 15 => 54 | 14 => 58 | 28 => 72 | 29 => 73 | 20 => 79 | 21 => 80 | 22 => 81 | 23 => 82 | 24 => 83 | 25 => 84 | 26 => 85 | 27 => 86 | 46 => 104 | 47 => 97 | 48 => 98 | 49 => 105 | 50 => 106 | 57 => 112 | n => n, fun | 22 => 23 | 24 => 25 | 25 => 79 | 3 => 3 | 39 => 86 | 0 => 0 | 53 => 109 | 55 => 22 | 4 => 4 | 46 => 102 | 45 => 101 | 50 => 106 | 5 => 5 | 9 => 9 | 66 => 123 | 70 => 127 | 76 => 135 | 77 => 136 | n => n, fun | n => n⟩
theorem Try.sortItems : Go.Proofs.SlLaysF0.n6 Try.prog Try.sortItems_ren := {
  mixed := by kernel_rfl
  f6 := ⟨Try.f47.name, by decide, Try.func47.trans (congrArg some (by kernel_rfl))⟩
  f14 := ⟨Try.f58.name, by decide, Try.func58.trans (congrArg some (by kernel_rfl))⟩
  f15 := Try.func54.trans (congrArg some (by kernel_rfl))
  f20 := ⟨Try.f79.name, by decide, Try.func79.trans (congrArg some (by kernel_rfl))⟩
  f21 := ⟨Try.f80.name, by decide, Try.func80.trans (congrArg some (by kernel_rfl))⟩
  f22 := ⟨Try.f81.name, by decide, Try.func81.trans (congrArg some (by kernel_rfl))⟩
  f23 := ⟨Try.f82.name, by decide, Try.func82.trans (congrArg some (by kernel_rfl))⟩
  f24 := ⟨Try.f83.name, by decide, Try.func83.trans (congrArg some (by kernel_rfl))⟩
  f25 := ⟨Try.f84.name, by decide, Try.func84.trans (congrArg some (by kernel_rfl))⟩
  f26 := ⟨Try.f85.name, by decide, Try.func85.trans (congrArg some (by kernel_rfl))⟩
  f27 := ⟨Try.f86.name, by decide, Try.func86.trans (congrArg some (by kernel_rfl))⟩
  f28 := Try.func72.trans (congrArg some (by kernel_rfl))
  f29 := Try.func73.trans (congrArg some (by kernel_rfl))
  f46 := ⟨Try.f104.name, by decide, Try.func104.trans (congrArg some (by kernel_rfl))⟩
  f47 := Try.func97.trans (congrArg some (by kernel_rfl))
  f48 := Try.func98.trans (congrArg some (by kernel_rfl))
  f49 := ⟨Try.f105.name, by decide, Try.func105.trans (congrArg some (by kernel_rfl))⟩
  f50 := ⟨Try.f106.name, by decide, Try.func106.trans (congrArg some (by kernel_rfl))⟩
  f57 := ⟨Try.f112.name, by decide, Try.func112.trans (congrArg some (by kernel_rfl))⟩
  t0 := Try.underlying0
  a0 := Try.isAgg0
  z0 := Try.sizeOf0
  v0 := Try.zeroValue0
  t3 := Try.underlying3
  a3 := Try.isAgg3
  z3 := Try.sizeOf3
  v3 := Try.zeroValue3
  t4 := Try.underlying4
  a4 := Try.isAgg4
  z4 := Try.sizeOf4
  v4 := Try.zeroValue4
  t5 := Try.underlying5
  a5 := Try.isAgg5
  z5 := Try.sizeOf5
  v5 := Try.zeroValue5
  t9 := Try.underlying9
  a9 := Try.isAgg9
  z9 := Try.sizeOf9
  v9 := Try.zeroValue9
  t22 := Try.underlying23
  a22 := Try.isAgg23
  z22 := Try.sizeOf23
  v22 := Try.zeroValue23
  t25 := Try.underlying79
  a25 := Try.isAgg79
  z25 := Try.sizeOf79
  v25 := Try.zeroValue79
  t39 := Try.underlying86
  a39 := Try.isAgg86
  z39 := Try.sizeOf86
  v39 := Try.zeroValue86
  t45 := Try.underlying101
  a45 := Try.isAgg101
  z45 := Try.sizeOf101
  v45 := Try.zeroValue101
  t46 := Try.underlying102
  a46 := Try.isAgg102
  z46 := Try.sizeOf102
  v46 := Try.zeroValue102
  t50 := Try.underlying106
  a50 := Try.isAgg106
  z50 := Try.sizeOf106
  v50 := Try.zeroValue106
  t53 := Try.underlying109
  a53 := Try.isAgg109
  z53 := Try.sizeOf109
  v53 := Try.zeroValue109
  t55 := Try.underlying22
  a55 := Try.isAgg22
  z55 := Try.sizeOf22
  v55 := Try.zeroValue22
  t66 := Try.underlying123
  a66 := Try.isAgg123
  z66 := Try.sizeOf123
  v66 := Try.zeroValue123
  t70 := Try.underlying127
  a70 := Try.isAgg127
  z70 := Try.sizeOf127
  v70 := Try.zeroValue127
  t76 := Try.underlying135
  a76 := Try.isAgg135
  z76 := Try.sizeOf135
  v76 := Try.zeroValue135
  t77 := Try.underlying136
  a77 := Try.isAgg136
  z77 := Try.sizeOf136
  v77 := Try.zeroValue136 }
def Try.sortInts_ren : Go.Shelf.Ren := ⟨fun | 6 => 42 | 15 => 54 | 14 => 53 | 28 => 72 | 29 => 73 | 20 => 64 | 21 => 65 | 22 => 66 | 23 => 67 | 24 => 68 | 25 => 69 | 26 => 70 | 27 => 71 | 46 => 96 | 47 => 97 | 48 => 98 | 49 => 99 | 50 => 100 | 57 => 111 | n => n, fun | 22 => 50 | 24 => 3 | 25 => 72 | 3 => 3 | 39 => 86 | 0 => 0 | 53 => 109 | 55 => 22 | 4 => 4 | 46 => 102 | 45 => 101 | 50 => 106 | 5 => 5 | 9 => 9 | 66 => 123 | 70 => 127 | 76 => 135 | 77 => 136 | n => n, fun | n => n⟩
theorem Try.sortInts : Go.Proofs.SlLaysF.n6 Try.prog Try.sortInts_ren := {
  mixed := by kernel_rfl
  f6 := ⟨Try.f42.name, by decide, Try.func42.trans (congrArg some (by kernel_rfl))⟩
  f14 := ⟨Try.f53.name, by decide, Try.func53.trans (congrArg some (by kernel_rfl))⟩
  f15 := Try.func54.trans (congrArg some (by kernel_rfl))
  f20 := ⟨Try.f64.name, by decide, Try.func64.trans (congrArg some (by kernel_rfl))⟩
  f21 := ⟨Try.f65.name, by decide, Try.func65.trans (congrArg some (by kernel_rfl))⟩
  f22 := ⟨Try.f66.name, by decide, Try.func66.trans (congrArg some (by kernel_rfl))⟩
  f23 := ⟨Try.f67.name, by decide, Try.func67.trans (congrArg some (by kernel_rfl))⟩
  f24 := ⟨Try.f68.name, by decide, Try.func68.trans (congrArg some (by kernel_rfl))⟩
  f25 := ⟨Try.f69.name, by decide, Try.func69.trans (congrArg some (by kernel_rfl))⟩
  f26 := ⟨Try.f70.name, by decide, Try.func70.trans (congrArg some (by kernel_rfl))⟩
  f27 := ⟨Try.f71.name, by decide, Try.func71.trans (congrArg some (by kernel_rfl))⟩
  f28 := Try.func72.trans (congrArg some (by kernel_rfl))
  f29 := Try.func73.trans (congrArg some (by kernel_rfl))
  f46 := ⟨Try.f96.name, by decide, Try.func96.trans (congrArg some (by kernel_rfl))⟩
  f47 := Try.func97.trans (congrArg some (by kernel_rfl))
  f48 := Try.func98.trans (congrArg some (by kernel_rfl))
  f49 := ⟨Try.f99.name, by decide, Try.func99.trans (congrArg some (by kernel_rfl))⟩
  f50 := ⟨Try.f100.name, by decide, Try.func100.trans (congrArg some (by kernel_rfl))⟩
  f57 := ⟨Try.f111.name, by decide, Try.func111.trans (congrArg some (by kernel_rfl))⟩
  t0 := Try.underlying0
  a0 := Try.isAgg0
  z0 := Try.sizeOf0
  v0 := Try.zeroValue0
  t3 := Try.underlying3
  a3 := Try.isAgg3
  z3 := Try.sizeOf3
  v3 := Try.zeroValue3
  t4 := Try.underlying4
  a4 := Try.isAgg4
  z4 := Try.sizeOf4
  v4 := Try.zeroValue4
  t5 := Try.underlying5
  a5 := Try.isAgg5
  z5 := Try.sizeOf5
  v5 := Try.zeroValue5
  t9 := Try.underlying9
  a9 := Try.isAgg9
  z9 := Try.sizeOf9
  v9 := Try.zeroValue9
  t22 := Try.underlying50
  a22 := Try.isAgg50
  z22 := Try.sizeOf50
  v22 := Try.zeroValue50
  a24 := Try.isAgg3
  z24 := Try.sizeOf3
  t25 := Try.underlying72
  a25 := Try.isAgg72
  z25 := Try.sizeOf72
  v25 := Try.zeroValue72
  t39 := Try.underlying86
  a39 := Try.isAgg86
  z39 := Try.sizeOf86
  v39 := Try.zeroValue86
  t45 := Try.underlying101
  a45 := Try.isAgg101
  z45 := Try.sizeOf101
  v45 := Try.zeroValue101
  t46 := Try.underlying102
  a46 := Try.isAgg102
  z46 := Try.sizeOf102
  v46 := Try.zeroValue102
  t50 := Try.underlying106
  a50 := Try.isAgg106
  z50 := Try.sizeOf106
  v50 := Try.zeroValue106
  t53 := Try.underlying109
  a53 := Try.isAgg109
  z53 := Try.sizeOf109
  v53 := Try.zeroValue109
  t55 := Try.underlying22
  a55 := Try.isAgg22
  z55 := Try.sizeOf22
  v55 := Try.zeroValue22
  t66 := Try.underlying123
  a66 := Try.isAgg123
  z66 := Try.sizeOf123
  v66 := Try.zeroValue123
  t70 := Try.underlying127
  a70 := Try.isAgg127
  z70 := Try.sizeOf127
  v70 := Try.zeroValue127
  t76 := Try.underlying135
  a76 := Try.isAgg135
  z76 := Try.sizeOf135
  v76 := Try.zeroValue135
  t77 := Try.underlying136
  a77 := Try.isAgg136
  z77 := Try.sizeOf136
  v77 := Try.zeroValue136 }
end Go.Proofs.Ytlipjaopbhdbeaa

/- slices.SortFunc over items: what the library says of it, in terms of items. -/
namespace Go.Proofs.Ytlipjaopbhdbeaa
open Go.RowKit Go.Sort

/-- An item with the place of its list, below block n of w. -/
structure IE (w : World) (n : Nat) where
  it : It
  A : Option Addr
  cap : Nat
  at_ : AtB w n it A cap
  le : it.count ≤ 1099511627775
instance instIE (w : World) (n : Nat) : Inhabited (IE w n) := ⟨⟨.mk 0 0 ⟨#[]⟩ [], none, 0, ⟨Nat.le_refl _, fun _ => rfl, AtL.nil _⟩, by rw [It.count_eq]; simp [It.l, countL]⟩⟩
section
variable {w w' : World} {n : Nat}
def ienc (x : IE w n) : List Value := ic x.it x.A x.cap
def icf (x y : IE w n) : Int := itC x.it y.it
theorem ienc_len (x : IE w n) : (ienc x).length = 4 := rfl
theorem swo_icf : SWO (Go.Proofs.ltOf (icf (w := w) (n := n))) where
  irrefl x := by unfold Go.Proofs.ltOf icf; rw [itC_cmp.refl]; rfl
  trans x y z h1 h2 := by
    unfold Go.Proofs.ltOf icf at *
    simp only [decide_eq_true_eq] at *
    exact itC_cmp.tr _ _ _ h1 h2
  ntrans x y z h1 h2 := by
    unfold Go.Proofs.ltOf icf at *
    simp only [decide_eq_false_iff_not, Int.not_lt] at *
    have a1 := itC_cmp.anti x.it y.it
    have a2 := itC_cmp.anti y.it z.it
    have a3 := itC_cmp.anti x.it z.it
    have := itC_cmp.le_trans (x := z.it) (y := y.it) (z := x.it) (by omega) (by omega)
    omega
/-- Cells of items, as a list of items with their places. -/
theorem lay_ie : ∀ {its : List It} {cs : List Value}, Lay w n its cs → (∀ t ∈ its, t.count ≤ 1099511627775) → ∃ l : List (IE w n), l.map IE.it = its ∧ l.flatMap ienc = cs
  | [], cs, h, _ => ⟨[], rfl, (show cs = [] from h).symm⟩
  | t :: r, cs, ⟨A, cap, c, e, h1, h2⟩, hc => by
    obtain ⟨l, e1, e2⟩ := lay_ie h2 fun t ht => hc t (List.mem_cons_of_mem _ ht)
    exact ⟨⟨t, A, cap, h1, hc t (List.mem_cons_self ..)⟩ :: l, by rw [List.map_cons, e1], by rw [List.flatMap_cons, e2, e]; rfl⟩
theorem flat_get : ∀ (l : List (IE w n)) (j : Nat), j < l.length * 4 → (l.flatMap ienc)[j]! = (ienc l.toArray[j / 4]!)[j % 4]!
  | [], j, h => by simp at h
  | x :: l, j, h => by
    rw [List.flatMap_cons]
    by_cases hj : j < 4
    · rw [Nat.div_eq_of_lt hj, Nat.mod_eq_of_lt hj, List.getElem!_eq_getElem?_getD, List.getElem?_append_left (by rw [ienc_len]; exact hj), List.getElem!_eq_getElem?_getD]
      rfl
    · have ih := flat_get l (j - 4) (by rw [List.length_cons] at h; omega)
      rw [List.getElem!_eq_getElem?_getD, List.getElem?_append_right (by rw [ienc_len]; omega), ienc_len, ← List.getElem!_eq_getElem?_getD, ih]
      have e1 : j / 4 = (j - 4) / 4 + 1 := by omega
      have e2 : (j - 4) % 4 = j % 4 := by omega
      rw [e1, e2]
      congr 2
      simp [getElem!_def]
theorem holds_ie {B g cap m : Nat} {l : List (IE w n)} {e : TypeId} (h : w.ownsRow B e 4 (.slice (some ⟨g, 0, none⟩) m cap) l.length (l.flatMap ienc)) : HoldsK ienc 4 w g 0 l.toArray := by
  intro j hj
  rw [size_flatK, List.size_toArray] at hj
  rw [Nat.zero_add, get_flatK _ _ _ _ (by rw [List.size_toArray]; exact hj), ← flat_get l j hj]
  obtain ⟨h1, h2⟩ := oc_cell h hj
  refine ⟨?_, h2⟩
  rw [h1, List.getElem!_eq_getElem?_getD]
  have hl : (l.flatMap ienc).length = l.length * 4 := by
    clear h hj h1 h2
    induction l with
    | nil => rfl
    | cons x l ih => rw [List.flatMap_cons, List.length_append, ih, ienc_len, List.length_cons]; omega
  rw [List.getElem?_eq_getElem (by omega)]
  rfl
/-- The other way about: a block that holds such items is a list in memory. -/
theorem list_ie {g : Nat} {d : Array (IE w n)} (hb : Below n w w') (hg : g < w'.heap.size) (hn : n ≤ g) (h : HoldsK ienc 4 w' g 0 d) : ∀ (k i : Nat), i + k = d.size → AtL w' (· < g + 1) ((d.toList.drop i).map IE.it) (some ⟨g, 4 * i, none⟩)
  | 0, i, hi => by
    rw [List.drop_eq_nil_of_le (by rw [Array.length_toList]; omega)]
    exact AtL.nil _
  | k + 1, i, hi => by
    have hlt : i < d.size := by omega
    have ih := list_ie hb hg hn h k (i + 1) (by omega)
    rw [List.drop_eq_getElem_cons (by rw [Array.length_toList]; exact hlt), List.map_cons]
    have hx : d[i]! = d.toList[i]'(by rw [Array.length_toList]; exact hlt) := by rw [getElem!_pos d i hlt]; rfl
    have hc := fun c (hc : c < 4) => (h.cell hlt hc).1
    rw [hx] at hc
    obtain ⟨⟨t, A, cap, ha, hcount⟩, e⟩ : ∃ x, d.toList[i]'(by rw [Array.length_toList]; exact hlt) = x := ⟨_, rfl⟩
    rw [e] at hc ⊢
    have ha' := ha.keep hb
    refine AtL.mk (by omega) hg (At1.mk A cap ?_ ?_ ?_ ?_ ha'.le ha'.nil (ha'.at_.more fun b hb => by omega)) ih
    · have := hc 0 (by omega); rw [Nat.zero_add, Nat.add_zero, Nat.mul_comm] at this; exact this
    · have := hc 1 (by omega); rw [Nat.zero_add, Nat.mul_comm] at this; exact this
    · have := hc 2 (by omega); rw [Nat.zero_add, Nat.mul_comm] at this; exact this
    · have := hc 3 (by omega); rw [Nat.zero_add, Nat.mul_comm] at this; exact this
theorem below_sortK {α : Type} [Inhabited α] (enc : α → List Value) (k : Nat) (w : World) (g off m : Nat) (dk : Array α) (os : Array Obj) (hg : g < w.heap.size) : Bel g w (sortWorldK enc k w g off m dk os) := by
  refine ⟨⟨rfl, rfl, rfl, ?_, fun b hb => ?_⟩, Nat.le_add_right _ _⟩
  · simp [sortWorldK, putRowK, putRow, mapBlock, Sort.ahead, Sort.grow]
  · simp only [sortWorldK, putRowK, putRow, mapBlock, Sort.ahead, Sort.grow]
    rw [Array.getElem?_append_left (by rw [Array.size_modify]; omega), Array.getElem?_modify, if_neg (by omega)]
theorem cmp_ie {g size : Nat} (hg : n ≤ g) (hgw : g < w.heap.size) : CmpLays Try.prog 48 #[] ienc 4 (icf (w := w) (n := n)) g 0 size w := by
  intro m os dk _ x y
  have hb := below_sortK ienc 4 w g 0 m dk os hgw
  refine (item_compareB x.it y.it x.A y.A x.cap y.cap n _ x.le (Nat.le_trans hg (Nat.le_trans (Nat.le_of_lt hgw) hb.size)) (x.at_.keep (hb.toBelow.mono hg)) (y.at_.keep (hb.toBelow.mono hg))).mono fun e w' h => ⟨h.1, h.2.grow⟩
theorem run_sort {its : List It} {g cap B : Nat} (hown : OwnI w n B (.slice (some ⟨g, 0, none⟩) its.length cap) its) (hg : n ≤ g) (hgw : g < w.heap.size) (hc : ∀ t ∈ its, t.count ≤ 1099511627775) (hlen : its.length < 4611686018427387904) (hcap : its.length ≤ cap) :
    Calls Try.prog 47 #[.slice (some ⟨g, 0, none⟩) its.length cap, .func (.func 48) #[] #[]] w fun e w' =>
      e = .returned (.tuple #[]) ∧ ∃ d : List It, d.Perm its ∧ (∀ i j (hi : i < j) (hj : j < d.length), 0 ≤ itC (d[j]) (d[i])) ∧ RL w' (g + 1) d (some ⟨g, 0, none⟩) cap ∧ Bel g w w' := by
  obtain ⟨cs, h1, h2⟩ := hown
  obtain ⟨l, e1, e2⟩ := lay_ie h2 hc
  subst e2
  have hl : its.length = l.toArray.size := by rw [← e1, List.length_map, List.size_toArray]
  have h1' : w.ownsRow B 25 4 (.slice (some ⟨g, 0, none⟩) its.length cap) l.length (l.flatMap ienc) := by rw [hl, List.size_toArray] at h1 ⊢; exact h1
  have hH := holds_ie h1'
  have eg : ∀ args w, (callFunc 48 args).run Try.prog w = .ok (.enter 48 args) w := enters_of Try.func48 (by kernel_rfl) rfl
  have hcon := Go.Proofs.AnyQ.slices_SortFunc Try.sortItems 4 Try.isAgg25 Try.sizeOf25 ienc ienc_len (fun x => ic_one _ _ _) icf swo_icf 48 #[] g 0 cap l.toArray w eg (cmp_ie hg hgw) hH hgw (by rw [← hl]; exact hlen)
  rw [hl]
  refine Calls.mono hcon ?_
  rintro e w' ⟨rfl, d', m, os, ⟨hs, _, hp⟩, hsrt, rfl⟩
  have hb := below_sortK ienc 4 w g 0 m d' os hgw
  have hd := holdsK_sortWorldK ienc 4 w g 0 m l.toArray d' os hgw hH hs
  have hat := list_ie (hb.toBelow.mono hg) (Nat.lt_of_lt_of_le hgw hb.size) hg hd d'.size 0 (by omega)
  have hdl : (d'.toList.map IE.it).length = its.length := by rw [List.length_map, Array.length_toList, hs, ← hl]
  refine ⟨rfl, d'.toList.map IE.it, ?_, ?_, ⟨by rw [hdl]; exact hcap, fun h => (by cases h), by simpa using hat⟩, hb⟩
  · rw [← e1]
    refine List.Perm.map _ ?_
    have e3 : d'.extract 0 l.toArray.size = d' := by rw [← hs]; exact Array.extract_size
    have e4 : l.toArray.extract 0 l.toArray.size = l.toArray := Array.extract_size
    rw [e3, e4] at hp
    simpa using hp
  · intro i j hi hj
    rw [List.length_map, Array.length_toList] at hj
    have := hsrt i j (Nat.zero_le _) hi (by rw [← hs]; exact hj)
    rw [getElem!_pos d' j hj, getElem!_pos d' i (by omega)] at this
    have this := of_decide_eq_false this
    simp only [icf] at this
    simp only [List.getElem_map, Array.getElem_toList]
    omega
end
end Go.Proofs.Ytlipjaopbhdbeaa
