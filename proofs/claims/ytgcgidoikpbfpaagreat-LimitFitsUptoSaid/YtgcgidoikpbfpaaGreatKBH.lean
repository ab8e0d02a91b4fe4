/- The document's encoding, plain: keys put in their order one by one. -/
import Derived.Test.YtgcgidoikpbfpaaGreatKBF
import Derived.Test.YtgcgidoikpbfpaaGreatKBG
import Derived.Deep.RegionHeld3
namespace Go.Proofs.YtgcgidoikpbfpaaGreat
open Go.RowKit

/-- x put in at a place. -/
def insAt {α : Type} (n : Nat) (x : α) (l : List α) : List α := l.take n ++ [x] ++ l.drop n
/-- How many keys from the first one on are ahead of k. -/
def ordAt (ks : List ByteArray) (k : ByteArray) : Nat := (ks.takeWhile fun q => ahead (sbytes q) (sbytes k)).length
/-- The keys in order, and their places, after so many. -/
def ordS (f : Nat → ByteArray) : Nat → List ByteArray × List Int
  | 0 => ([], [])
  | j + 1 => (insAt (ordAt (ordS f j).1 (f j)) (f j) (ordS f j).1, insAt (ordAt (ordS f j).1 (f j)) ((2 * j : Nat) : Int) (ordS f j).2)
theorem length_insAt {α : Type} (n : Nat) (x : α) (l : List α) : (insAt n x l).length = l.length + 1 := by
  unfold insAt
  rw [List.length_append, List.length_append, List.length_take, List.length_drop, List.length_singleton]
  omega
theorem insAt_perm {α : Type} (n : Nat) (x : α) (l : List α) : (insAt n x l).Perm (x :: l) := by
  unfold insAt
  rw [List.append_assoc]
  refine (List.perm_middle (l₁ := l.take n) (l₂ := l.drop n) (a := x)).trans ?_
  rw [List.take_append_drop]
theorem length_ordS (f : Nat → ByteArray) : ∀ j, (ordS f j).1.length = j ∧ (ordS f j).2.length = j
  | 0 => ⟨rfl, rfl⟩
  | j + 1 => by
    have h := length_ordS f j
    rw [ordS]
    exact ⟨by rw [length_insAt, h.1], by rw [length_insAt, h.2]⟩
theorem ordS_perm (f : Nat → ByteArray) : ∀ j, (ordS f j).2.Perm ((List.range j).map fun i => ((2 * i : Nat) : Int))
  | 0 => List.Perm.refl _
  | j + 1 => by
    rw [ordS, List.range_succ, List.map_append]
    refine (insAt_perm _ _ _).trans ?_
    refine ((ordS_perm f j).cons _).trans ?_
    exact (List.perm_append_singleton _ _).symm
theorem ordS_mem {f : Nat → ByteArray} {j : Nat} {v : Int} (h : v ∈ (ordS f j).2) : ∃ i, i < j ∧ v = ((2 * i : Nat) : Int) := by
  obtain ⟨i, hi, rfl⟩ := List.mem_map.1 ((ordS_perm f j).mem_iff.1 h)
  exact ⟨i, List.mem_range.1 hi, rfl⟩
theorem ordS_keys {f : Nat → ByteArray} : ∀ {j : Nat} {s : ByteArray}, s ∈ (ordS f j).1 → ∃ i, i < j ∧ s = f i
  | 0, s, h => by cases h
  | j + 1, s, h => by
    rw [ordS] at h
    rcases List.mem_cons.1 ((insAt_perm _ _ _).mem_iff.1 h) with rfl | h
    · exact ⟨j, by omega, rfl⟩
    · obtain ⟨i, hi, e⟩ := ordS_keys h
      exact ⟨i, by omega, e⟩
theorem ordAt_le (ks : List ByteArray) (k : ByteArray) : ordAt ks k ≤ ks.length := (List.takeWhile_sublist _).length_le
theorem ordAt_lt {k : ByteArray} : ∀ {ks : List ByteArray} {i : Nat}, i < ordAt ks k → ahead (sbytes (ks.getD i ByteArray.empty)) (sbytes k) = true
  | [], i, h => by simp [ordAt] at h
  | q :: r, i, h => by
    unfold ordAt at h
    rw [List.takeWhile_cons] at h
    cases hq : ahead (sbytes q) (sbytes k) with
    | true =>
      rw [hq] at h
      simp only [if_true, List.length_cons] at h
      cases i with
      | zero => simpa using hq
      | succ i => simpa using ordAt_lt (ks := r) (i := i) (by unfold ordAt; omega)
    | false => rw [hq] at h; simp at h
theorem ordAt_eq {ks : List ByteArray} {k : ByteArray} (h : ordAt ks k < ks.length) : ahead (sbytes (ks.getD (ordAt ks k) ByteArray.empty)) (sbytes k) = false := by
  induction ks with
  | nil => simp at h
  | cons q r ih =>
    unfold ordAt at h ⊢
    rw [List.takeWhile_cons] at h ⊢
    cases hq : ahead (sbytes q) (sbytes k) with
    | true =>
      rw [hq] at h
      simp only [if_true, List.length_cons] at h ⊢
      have := ih (by unfold ordAt; omega)
      unfold ordAt at this
      simpa using this
    | false => simp [hq]

/-- A map's pairs in the order of their keys, out of the encodings of its items. -/
def mapEnc (es : List (List Int)) : List Int :=
  ((ordS (fun i => strOfNums (es.getD (2 * i) [])) (es.length / 2)).2.map fun o => es.getD o.toNat [] ++ es.getD (o.toNat + 1) []).flatten
mutual
/-- The document's encoding. -/
noncomputable def It.renc : It → List Int
  | .mk k n s l => hdK k n s.size l.length ++ (sbytes s ++ (if k = 5 then mapEnc (rencs l) else (rencs l).flatten))
noncomputable def rencs : List It → List (List Int)
  | [] => []
  | t :: r => t.renc :: rencs r
end
theorem rencs_map (l : List It) : rencs l = l.map It.renc := by
  induction l with
  | nil => simp [rencs]
  | cons x r ih => rw [rencs, ih, List.map_cons]
theorem length_rencs (l : List It) : (rencs l).length = l.length := by rw [rencs_map, List.length_map]
theorem sum_perm {a b : List Nat} (h : a.Perm b) : a.sum = b.sum := h.sum_nat
theorem pairs_sum (es : List (List Int)) : ∀ j, 2 * j ≤ es.length → (((List.range j).map fun i => ((2 * i : Nat) : Int)).map fun o : Int => (es.getD o.toNat [] ++ es.getD (o.toNat + 1) []).length).sum = ((es.take (2 * j)).map List.length).sum
  | 0, _ => by simp
  | j + 1, h => by
    rw [List.range_succ, List.map_append, List.map_append, List.sum_append, pairs_sum es j (by omega)]
    have e1 : es.take (2 * (j + 1)) = es.take (2 * j) ++ [es.getD (2 * j) [], es.getD (2 * j + 1) []] := by
      rw [show 2 * (j + 1) = 2 * j + 1 + 1 by omega, List.take_add_one, List.take_add_one, List.append_assoc]
      rw [List.getElem?_eq_getElem (by omega : 2 * j < es.length), List.getElem?_eq_getElem (by omega : 2 * j + 1 < es.length)]
      simp [List.getD_eq_getElem?_getD, List.getElem?_eq_getElem (by omega : 2 * j < es.length), List.getElem?_eq_getElem (by omega : 2 * j + 1 < es.length)]
    rw [e1, List.map_append, List.sum_append]
    have e2 : ((2 * j : Nat) : Int).toNat = 2 * j := by omega
    simp only [List.map_cons, List.map_nil, List.sum_cons, List.sum_nil, e2, List.length_append]
    omega
theorem length_mapEnc {es : List (List Int)} (h : es.length % 2 = 0) : (mapEnc es).length = es.flatten.length := by
  unfold mapEnc
  rw [List.length_flatten, List.length_flatten, List.map_map]
  have h1 := sum_perm ((ordS_perm (fun i => strOfNums (es.getD (2 * i) [])) (es.length / 2)).map fun o : Int => (es.getD o.toNat [] ++ es.getD (o.toNat + 1) []).length)
  rw [pairs_sum es (es.length / 2) (by omega), show 2 * (es.length / 2) = es.length by omega, List.take_length] at h1
  exact h1
mutual
theorem renc_length (x : It) (h : x.okE) : x.renc.length = x.enc.length := by
  obtain ⟨k, n, s, l⟩ := x
  have hk := (It.okE_eq _).1 h
  have hl := rencs_length l hk.2
  rw [It.renc, It.enc, List.length_append, List.length_append, List.length_append, List.length_append]
  by_cases h5 : k = 5
  · rw [if_pos h5, length_mapEnc (by rw [length_rencs]; exact even5 hk.1 h5), hl]
  · rw [if_neg h5, hl]
theorem rencs_length (l : List It) (h : okEL l) : (rencs l).flatten.length = (encL l).length := by
  cases l with
  | nil => simp [rencs, encL]
  | cons x r =>
    rw [okEL] at h
    rw [rencs, encL, List.flatten_cons, List.length_append, List.length_append, renc_length x h.1, rencs_length r h.2]
end
mutual
theorem renc_byte (x : It) (h : x.okE) : ByteL x.renc := by
  obtain ⟨k, n, s, l⟩ := x
  have hk := (It.okE_eq _).1 h
  have hl := rencs_byte l hk.2
  rw [It.renc]
  refine byteL_append (byte_hd hk.1) (byteL_append (byte_text s) ?_)
  have hg : ∀ i, ByteL ((rencs l).getD i []) := fun i => by
    by_cases hi : i < (rencs l).length
    · rw [List.getD_eq_getElem?_getD, List.getElem?_eq_getElem hi]
      exact hl _ (List.getElem_mem hi)
    · rw [List.getD_eq_getElem?_getD, List.getElem?_eq_none (by omega)]
      intro c hc
      cases hc
  split
  · intro c hc
    unfold mapEnc at hc
    obtain ⟨e, he, hce⟩ := List.mem_flatten.1 hc
    obtain ⟨o, _, rfl⟩ := List.mem_map.1 he
    exact byteL_append (hg _) (hg _) c hce
  · intro c hc
    obtain ⟨e, he, hce⟩ := List.mem_flatten.1 hc
    exact hl e he c hce
theorem rencs_byte (l : List It) (h : okEL l) : ∀ e ∈ rencs l, ByteL e := by
  cases l with
  | nil => intro e he; simp [rencs] at he
  | cons x r =>
    rw [okEL] at h
    intro e he
    rw [rencs] at he
    rcases List.mem_cons.1 he with rfl | he
    · exact renc_byte x h.1
    · exact rencs_byte r h.2 e he
end
end Go.Proofs.YtgcgidoikpbfpaaGreat

/- Package enc: size, Size. -/
namespace Go.Proofs.YtgcgidoikpbfpaaGreat
open Go.RowKit

set_option maxRecDepth 100000 in
set_option maxHeartbeats 4000000 in
theorem enc_size : ∀ (c : Nat) (x : It) (A : Option Addr) (cap n : Nat) (w : World), x.count ≤ c → x.okE → x.bulk ≤ 1099511627776 → n ≤ w.heap.size → AtB w n x A cap →
    Calls Tryz.prog 32 #[vI x A cap] w fun e w' => e = .returned (.int .i64 (x.enc.length : Int)) ∧ Below w.heap.size w w' := by
  intro c
  induction c with
  | zero => intro x A cap n w h; have := count_pos x; omega
  | succ c ih =>
    intro x A cap n w hc hok hsz hn h
    simp only [vI] at ih
    have IH := Lib.hid ih
    clear ih
    obtain ⟨k, nn, s, l⟩ := x
    have hok' := hok
    rw [It.okE] at hok'
    obtain ⟨⟨_, _, hn0, hn1, _, _⟩, hokl⟩ := hok'
    simp only [It.n] at hn0 hn1
    rw [It.bulk] at hsz
    have hll := bulk_length l
    obtain ⟨w1, hw1, b1, S⟩ := iblk1 w 25 #[.int .i64 k, .int .u64 nn, .string s, .slice A l.length cap]
    obtain ⟨p0, p1, p2, p3, -⟩ := iblk b1
    have C := fun w => enc_headOf (.mk k nn s l) A cap w hn0 hn1 (by show s.size ≤ _; omega) (by show l.length ≤ _; omega)
    have hhd := hd_length k nn s.size l.length
    have HENC : RowKit.Hid (It.enc (.mk k nn s l) = hdK k nn s.size l.length ++ (sbytes s ++ encL l)) := Lib.hid (by rw [It.enc])
    have HC := Lib.hid C
    have HS := Lib.hid S
    have HB1 := Lib.hid b1
    have HH := Lib.hid h
    have HN := Lib.hid hn
    have HOKL := Lib.hid hokl
    have HSZ := Lib.hid (fun _ : Unit => hsz)
    have HCC := Lib.hid (fun _ : Unit => hc)
    have hml : (l.length : Int) < 1099511627777 := by omega
    have hsl : (s.size : Int) < 1099511627777 := by omega
    clear C S b1 h hn hokl hok hsz hc hll hn0 hn1
    simp only [vI, It.k, It.n, It.s, It.l] at HC ⊢
    generalize It.enc (.mk k nn s l) = EN at *
    generalize hdK k nn s.size l.length = he at *
    obtain ⟨m, hm⟩ : ∃ m, l.length = m := ⟨_, rfl⟩
    obtain ⟨q, hq⟩ : ∃ q, he.length = q := ⟨_, rfl⟩
    obtain ⟨z, hz⟩ : ∃ z, s.size = z := ⟨_, rfl⟩
    rw [hq] at hhd
    rw [hm] at hml p3 hw1 HB1 HC ⊢
    rw [hz] at hsl
    have HM := Lib.hid hm
    have HZ := Lib.hid hz
    have HQ := Lib.hid hq
    have hq9 : (q : Int) ≤ 9 := by omega
    have HQ9 := Lib.hid hhd
    clear hm hhd hq
    go_enter Tryz.func32, Tryz.ntmps32
    go_wp2_with fail
    have HK : ∀ W, Below w1.heap.size w1 W → W.cell? ⟨w.heap.size, 0, none⟩ = some (.int .i64 k) ∧ W.cell? ⟨w.heap.size, 1, none⟩ = some (.int .u64 nn) ∧ W.cell? ⟨w.heap.size, 2, none⟩ = some (.string s) ∧ W.cell? ⟨w.heap.size, 3, none⟩ = some (.slice A m cap) := fun W hb => by
      obtain ⟨r0, r1, r2, r3, -⟩ := iblk (HB1.out.on hb)
      exact ⟨r0, r1, r2, r3⟩
    have HK' := Lib.hid HK
    clear HK
    obtain cS : w1.drew.cell? ⟨w.heap.size, 0, none⟩ = some (.int .i64 k) ∧ w1.drew.cell? ⟨w.heap.size, 1, none⟩ = some (.int .u64 nn) ∧ w1.drew.cell? ⟨w.heap.size, 2, none⟩ = some (.string s) ∧ w1.drew.cell? ⟨w.heap.size, 3, none⟩ = some (.slice A m cap) := HK'.out _ (below_drawn (Below.refl _ _))
    go_region_held3 (fun W => W.cell? ⟨w.heap.size, 0, none⟩ = some (.int .i64 k) ∧ W.cell? ⟨w.heap.size, 1, none⟩ = some (.int .u64 nn) ∧ W.cell? ⟨w.heap.size, 2, none⟩ = some (.string s) ∧ W.cell? ⟨w.heap.size, 3, none⟩ = some (.slice A m cap)) (first | go_keep | exact cS) ((go_at_call 42; refine (HC.out _).mono ?_; rintro e w2 ⟨v2, rfl, ho, hb⟩; obtain ⟨A2, cap2, rfl, c1, c2, c3, c4, c5⟩ := ho.form; rw [HQ.out]; have HB2 := Lib.hid hb; have cS := HK'.out w2 ((below_drawn (Below.refl _ _)).trans hb); clear ho hb c1 c2 c3 c4 c5))
    have e1 : IntKind.i64.wrap ((q : Int) + z) = ((q + z : Nat) : Int) := by
      rw [IntWalk.i64_in _ (by omega)]; omega
    rw [e1]
    obtain ⟨qz, hqz⟩ : ∃ qz, q + z = qz := ⟨_, rfl⟩
    rw [hqz]
    have HQZ := Lib.hid hqz
    have HB2' := Lib.hid (HS.out.trans ((below_drawn (Below.refl w1.heap.size w1)).mono HS.out.size |>.trans (HB2.out.mono (by have := HS.out.size; simpa using this))))
    obtain ⟨-, -, -, c3⟩ := cS
    clear e1 hqz hq9 hsl p0 p1 p2 p3 hw1 HC HB1 HB2
    go_wp2_with fail
    go_loopw [3, 16] (fun nv i wr => ∃ j : Nat, j ≤ m ∧ i = .int .i64 (j : Int) ∧ nv = .int .i64 ((qz + (encL (l.take j)).length : Nat) : Int) ∧ RowKit.Hid (Below w.heap.size w wr)) (fun _ i _ => m - (intOf i).toNat)
    case atStart => exact ⟨0, by omega, rfl, by simp [encL], HB2'⟩
    case round =>
      obtain ⟨j, hj, rfl, rfl, HB⟩ := hrel
      by_cases hlt : j < m
      · as_aux_lemma =>
        have hbn := HB.out.mono HN.out
        obtain ⟨b, o, X, A', c', rfl, -, hb1, hX, mX, x0, x1, x2, x3, hx⟩ := (HH.out.keep hbn).item (i := j) (by show j < l.length; rw [HM.out]; exact hlt)
        have hX : l[j]? = some X := hX
        have mX : X ∈ l := mX
        have htk := (take_at hX).1
        have hbx : X.bulk ≤ (It.mk k nn s l).bulk := bulk_sub (x := .mk k nn s l) mX
        rw [It.bulk] at hbx
        have hcount : X.count ≤ c := by
          have h1 := count_le_of_mem mX
          have h2 := HCC.out ()
          rw [It.count_eq] at h2
          have h3 : (It.mk k nn s l).l = l := rfl
          rw [h3] at h2
          omega
        have S5 := below_alloc wr (.cells #[.int .i64 X.k, .int .u64 X.n, .string X.s, .slice A' X.l.length c'] 25)
        have hBr : w.heap.size ≤ wr.heap.size := HB.out.size
        have C := IH.out X A' c' n (wr.alloc (.cells #[.int .i64 X.k, .int .u64 X.n, .string X.s, .slice A' X.l.length c'] 25)) hcount (okEL_iff.1 HOKL.out X mX) (by have := HSZ.out (); omega) (Nat.le_trans HN.out (Nat.le_trans hBr S5.size)) (hx.keep (S5.mono (Nat.le_trans HN.out hBr)))
        have HC := Lib.hid C
        have HTK := Lib.hid (show (encL (l.take (j + 1))).length = (encL (l.take j)).length + X.enc.length by rw [htk, encL_append]; simp [encL])
        have HS5 := Lib.hid (S5.mono hBr)
        have hle : qz + (encL (l.take j)).length + X.enc.length < 1099511627777 := by
          have h1 := encL_length (l.take (j + 1))
          have h2 := HTK.out
          have h3 : bulkL (l.take (j + 1)) ≤ bulkL l := by
            have := bulkL_append (l.take (j + 1)) (l.drop (j + 1))
            rw [List.take_append_drop] at this
            omega
          have h4 := HSZ.out ()
          have h5 := HQZ.out
          have h6 := HQ9.out
          have h7 := HZ.out
          omega
        obtain ⟨p, hp⟩ : ∃ p : Nat, qz + (encL (l.take j)).length = p := ⟨_, rfl⟩
        obtain ⟨r, hr⟩ : ∃ r : Nat, X.enc.length = r := ⟨_, rfl⟩
        rw [hp] at hle ⊢
        rw [hr] at HC HTK hle
        have HP := Lib.hid hp
        have hpI : (p : Int) + r < 1099511627777 := by omega
        have hji : (j : Int) < m := by omega
        clear C S5 hbx hcount hX mX htk hx hbn hle hp hr
        go_wp2_with (go_at_call 32; refine HC.out.mono ?_; rintro e w6 ⟨rfl, hb⟩; have HB6 := Lib.hid hb; clear hb)
        go_roundw
        case rel =>
          refine ⟨j + 1, by omega, by simp, ?_, Lib.hid (HB.out.trans (HS5.out.trans (HB6.out.mono (Nat.le_trans hBr (by simp)))))⟩
          rw [HTK.out, ← HP.out]; congr 1; omega
        case measure => simp [intOf]; omega
      · obtain rfl : j = m := by omega
        have hfull : l.take j = l := by rw [← HM.out, List.take_length]
        rw [hfull]
        have he : qz + (encL l).length = EN.length := by rw [HENC.out, List.length_append, List.length_append, length_sbytes, HQ.out, HZ.out, ← HQZ.out]; omega
        rw [he]
        clear hml
        go_wp2_with fail
        go_ret
        exact ⟨rfl, HB.out⟩

/-- What Size answers. -/
noncomputable def sizeR (x : It) : Int := if checkR wrongI x = 0 then (x.enc.length : Int) else 0
set_option maxRecDepth 100000 in
theorem enc_Size (x : It) (A : Option Addr) (cap n : Nat) (w : World) (hx : okI 1048576 x) (hb : x.bulk ≤ 1099511627776) (hn : n ≤ w.heap.size) (h : AtB w n x A cap) :
    Calls Tryz.prog 22 #[vI x A cap] w fun e w' => e = .returned (.int .i64 (sizeR x)) ∧ Below w.heap.size w w' := by
  obtain ⟨w1, hw1, b1, S⟩ := iblk1 w 25 #[.int .i64 x.k, .int .u64 x.n, .string x.s, .slice A x.l.length cap]
  obtain ⟨p0, p1, p2, p3, -⟩ := iblk b1
  obtain ⟨r, hr⟩ : ∃ r, checkR wrongI x = r := ⟨_, rfl⟩
  have hC := item_CheckW x A cap n w1 hx (Nat.le_trans hn S.size) (h.keep (S.mono hn))
  have hX := fun (w' : World) (hb' : Below w.heap.size w w') (ok : x.okE) => enc_size x.count x A cap n w' (Nat.le_refl _) ok hb (Nat.le_trans hn hb'.size) (h.keep (hb'.mono hn))
  have HOK := Lib.hid (fun hz : r = 0 => check_ok (by omega : (1048576 : Nat) ≤ 1099511627776) hx (hr.trans hz))
  unfold sizeR
  rw [hr] at hC ⊢
  obtain ⟨q, hq⟩ : ∃ q, x.enc.length = q := ⟨_, rfl⟩
  rw [hq] at hX ⊢
  simp only [vI] at hC hX ⊢
  have HC := Lib.hid hC
  have HX := Lib.hid hX
  have HS := Lib.hid S
  have HB1 := Lib.hid b1
  clear hC hX hb hx h hr hq
  by_cases hz : r = 0
  · subst hz
    have ok := Lib.hid (HOK.out rfl)
    rw [if_pos rfl]
    go_enter Tryz.func22, Tryz.ntmps22
    go_wp2_with fail
    refine HC.out.mono ?_
    rintro e w2 ⟨rfl, S2⟩
    have HS2 := Lib.hid (HS.out.trans (S2.mono HS.out.size))
    obtain ⟨q0, q1, q2, q3, -⟩ := iblk (HB1.out.on S2)
    clear S2 HC p0 p1 p2 p3 hw1
    go_wp2_with fail
    refine (HX.out _ HS2.out ok.out).mono ?_
    rintro e w3 ⟨rfl, S3⟩
    have HS3 := Lib.hid (HS2.out.trans (S3.mono HS2.out.size))
    clear S3
    go_wp2_with fail
    go_ret
    exact ⟨rfl, HS3.out⟩
  · rw [if_neg hz]
    go_enter Tryz.func22, Tryz.ntmps22
    go_wp2_with fail
    refine HC.out.mono ?_
    rintro e w2 ⟨rfl, S2⟩
    have HS2 := Lib.hid (HS.out.trans (S2.mono HS.out.size))
    clear S2 HC p0 p1 p2 p3 hw1
    go_wp2_with fail
    go_ret
    exact ⟨rfl, HS2.out⟩
end Go.Proofs.YtgcgidoikpbfpaaGreat
