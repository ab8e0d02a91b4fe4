/- Package enc: lay. -/
import Derived.Test.YtgbbgdjdomkohaaGreatKAW
import Derived.Test.YtgbbgdjdomkohaaGreatKAR
import Derived.Lib.AppendStr
import Derived.Test.YtgbbgdjdomkohaaGreatKAL
namespace Go.Proofs.YtgbbgdjdomkohaaGreat
open Go.RowKit

mutual
/-- As many bytes an encoding has at the most. -/
def It.bulk : It → Nat
  | .mk _ _ s l => 9 + s.size + bulkL l
def bulkL : List It → Nat
  | [] => 0
  | t :: r => t.bulk + bulkL r
end
theorem bulkL_append (a b : List It) : bulkL (a ++ b) = bulkL a + bulkL b := by
  induction a with
  | nil => simp [bulkL]
  | cons x r ih => simp [bulkL, ih]; omega
theorem bulk_length (l : List It) : l.length ≤ bulkL l := by
  induction l with
  | nil => simp [bulkL]
  | cons x r ih =>
    have : 1 ≤ x.bulk := by cases x; rw [It.bulk]; omega
    simp only [List.length_cons, bulkL]; omega
theorem hput_length (m a : Int) : (hputL m a).length ≤ 9 := by
  unfold hputL
  split
  · simp
  · rw [hlay_length]
    rcases leastW_in a with ⟨h, _⟩ | h | h | h | h <;> rw [h] <;> decide
theorem hd_length (k n : Int) (m l : Nat) : (hdK k n m l).length ≤ 9 := by
  unfold hdK
  split
  · unfold fhead
    split
    · rename_i h
      rw [hlay_length]
      have := sh_wid h.choose_spec
      omega
    · simp
  · (repeat' split) <;> exact hput_length _ _
mutual
theorem enc_length (x : It) : x.enc.length ≤ x.bulk := by
  obtain ⟨k, n, s, l⟩ := x
  have h1 := hd_length k n s.size l.length
  have h2 := encL_length l
  rw [It.enc, It.bulk, List.length_append, List.length_append, length_sbytes]
  omega
theorem encL_length (l : List It) : (encL l).length ≤ bulkL l := by
  cases l with
  | nil => simp [encL]
  | cons x r =>
    have h1 := enc_length x
    have h2 := encL_length r
    rw [encL, bulkL, List.length_append]
    omega
end
theorem strCells_nums (s : ByteArray) : Lib.strCells s = (sbytes s).map (Value.int .u8) := by
  unfold Lib.strCells sbytes
  rw [List.map_map]
  rfl
theorem u8Info : (Tryz.prog.info? 5).map (fun i => (i.zero, i.size, i.bytes)) = some (some (.int .u8 0), 1, 1) := by kernel_rfl
/-- append of a text to a slice of the call's own. -/
theorem run_append_text {w : World} {B : Nat} {ty : TypeId} {v : Value} {zs : List Int} (hown : Own w B .u8 5 v zs) (s : ByteArray) (hsz : zs.length + s.size ≤ 1099511627776) (hB : B ≤ w.heap.size) :
    ∃ v' w', (Builtin.append_ #[46, 9] ty #[v, .string s]).run Tryz.prog w = .ok v' w' ∧ Own w' B .u8 5 v' (zs ++ sbytes s) ∧ Below B w w' ∧ w.grownBy w' v.ownBlock := by
  obtain ⟨i, hi0, hz0, hz1, hz2⟩ := info_parts u8Info
  obtain ⟨v', w', h1, h2, h3, _⟩ := Lib.run_append_own_string (P := Tryz.prog) (w := w) B 46 9 ty 5 i (by kernel_rfl) (by kernel_rfl) hi0 hz0 hz1 hz2 v zs.length _ hown s (by unfold maxLen; omega) (by omega) hB
  refine ⟨v', w', h1, ?_, hown.grown h3 hB, h3⟩
  unfold Own
  rw [List.length_append, List.map_append, length_sbytes, ← strCells_nums]
  exact h2
theorem is_appendT {P : Program} {ops : Array Oper} {rest : List Oper} {o : Oper} {a : Act} {w : World} {Q : Exit → Act → World → Prop} (t u : TypeId) {s x : Operand} (_ho : o.op = .call { callee := .builtin .append, args := #[s, x], argTypes := #[t, u] }) (h : wpList P ops Q (o :: rest) a w) : wpList P ops Q (o :: rest) a w := h
theorem wpList_append_run2 {P : Program} {ops : Array Oper} {rest : List Oper} {o : Oper} {a : Act} {w w' : World} {Q : Exit → Act → World → Prop} (hgd : o.guard = none) {s x : Operand} {t u : TypeId}
    (ho : o.op = .call { callee := .builtin .append, args := #[s, x], argTypes := #[t, u] }) {v y v' : Value}
    (hr : (Builtin.append_ #[t, u] o.type #[v, y]).run P w = .ok v' w') (hs : a.eval s = v) (hx : a.eval x = y) (h : wpList P ops Q rest (a.put o.dst v') w') : wpList P ops Q (o :: rest) a w := by
  refine wpList_plain hgd fun K hK => ?_
  unfold Oper.wp
  simp only [execOp, ho, resolve, invoke, builtin, Sem.run_bind, Sem.run_pure, Result.andThen_ok, List.map_toArray, List.map_cons, List.map_nil, hs, hx, hr]
  exact hK _ _ h
/-- The two appends of lay. -/
theorem lay_front {w w2 : World} {B : Nat} {v v2 : Value} {zs hs : List Int} {s : ByteArray} {g : Nat} {cs : Array Value} (hv : Own w B .u8 5 v zs) (hS : Below w.heap.size w w2) (h2 : Own w2 w2.heap.size .u8 5 v2 hs ∨ ∃ B2, Own w2 B2 .u8 5 v2 hs) (hg : Blk w2 g 31 cs) (hsz : zs.length + hs.length + s.size ≤ 1099511627776) (hB : B ≤ w.heap.size) :
    ∃ v3 w3 v4 w4, (Builtin.append_ #[46, 46] 46 #[v, v2]).run Tryz.prog w2 = .ok v3 w3 ∧ (Builtin.append_ #[46, 9] 46 #[v3, .string s]).run Tryz.prog w3 = .ok v4 w4 ∧
      Blk w3 g 31 cs ∧ Blk w4 g 31 cs ∧ Own w4 B .u8 5 v4 (zs ++ hs ++ sbytes s) ∧ Below B w2 w4 := by
  obtain ⟨B2, o2⟩ : ∃ B2, Own w2 B2 .u8 5 v2 hs := by
    rcases h2 with h | h
    · exact ⟨_, h⟩
    · exact h
  have o1 := hv.below hS
  obtain ⟨A2, cap2, rfl, c1, c2, c3, c4, c5⟩ := o2.form
  obtain ⟨v3, w3, r3, o3, b3, g3⟩ := run_append_nums (P := Tryz.prog) (t := 46) (ty := 46) (bytes := 1) (by kernel_rfl) u8Info (by omega) o1 c5 c3 (by omega) (Nat.le_trans hB hS.size)
  obtain ⟨v4, w4, r4, o4, b4, g4⟩ := run_append_text (ty := 46) o3 s (by rw [List.length_append]; exact hsz) (Nat.le_trans (Nat.le_trans hB hS.size) b3.size)
  have kept : ∀ {W W' : World} {u : Value} {l : List Int}, Own W B .u8 5 u l → W.grownBy W' u.ownBlock → Blk W g 31 cs → Blk W' g 31 cs := fun {W W' u l} ho hgr hb => by
    refine (hgr.block g hb.lt ?_).trans hb
    rcases blk_ne ho hb (by decide) with e | e
    · rw [e]; intro h; cases h
    · exact fun h => e h.symm
  have k3 := kept o1 g3 hg
  exact ⟨v3, w3, v4, w4, r3, r4, k3, kept o3 g4 k3, o4, b3.trans b4⟩

set_option maxRecDepth 100000 in
set_option maxHeartbeats 4000000 in
theorem enc_lay : ∀ (c : Nat) (x : It) (A : Option Addr) (cap n B : Nat) (v : Value) (zs : List Int) (w : World), x.count ≤ c → x.okE → zs.length + x.bulk ≤ 1099511627776 → AtB w n x A cap → Own w B .u8 5 v zs → n ≤ B → B ≤ w.heap.size →
    Calls Tryz.prog 27 #[v, vI x A cap] w fun e w' => ∃ v', e = .returned v' ∧ Own w' B .u8 5 v' (zs ++ x.enc) ∧ Below B w w' := by
  intro c
  induction c with
  | zero => intro x A cap n B v zs w h; have := count_pos x; omega
  | succ c ih =>
    intro x A cap n B v zs w hc hok hsz h hv hnB hB
    simp only [vI] at ih
    have IH := Lib.hid ih
    clear ih
    obtain ⟨k, nn, s, l⟩ := x
    have hok' := hok
    rw [It.okE] at hok'
    obtain ⟨⟨_, _, hn0, hn1, _, _⟩, hokl⟩ := hok'
    simp only [It.n] at hn0 hn1
    rw [It.bulk] at hsz
    have hll := bulk_length l
    obtain ⟨w1, hw1, b1, S⟩ := iblk1 w 31 #[.int .i64 k, .int .u64 nn, .string s, .slice A l.length cap]
    obtain ⟨p0, p1, p2, p3, -⟩ := iblk b1
    have C := enc_headOf (.mk k nn s l) A cap w1 hn0 hn1 (by show s.size ≤ _; omega) (by show l.length ≤ _; omega)
    have hhd := hd_length k nn s.size l.length
    have HC := Lib.hid C
    have HHD := Lib.hid hhd
    have HS := Lib.hid S
    have HB1 := Lib.hid b1
    have HV := Lib.hid hv
    have HH := Lib.hid h
    have HNB := Lib.hid hnB
    have HBB := Lib.hid hB
    have HOKL := Lib.hid hokl
    have HSZ := Lib.hid (fun _ : Unit => hsz)
    have HCC := Lib.hid (fun _ : Unit => hc)
    have hml : (l.length : Int) < 1099511627777 := by omega
    clear C hhd S b1 hv h hnB hB hokl hok hsz hc hll hn0 hn1
    simp only [vI, It.k, It.n, It.s, It.l] at HC ⊢
    generalize hhe : hdK k nn s.size l.length = he at *
    have HHE := Lib.hid hhe
    clear hhe
    obtain ⟨m, hm⟩ : ∃ m, l.length = m := ⟨_, rfl⟩
    rw [hm] at hml p3 hw1 HB1 HC ⊢
    have HM := Lib.hid hm
    clear hm
    go_enter Tryz.func27, Tryz.ntmps27
    go_wp2_with (first
      | (go_at_call 38; refine HC.out.mono ?_; rintro e w2 hp; obtain ⟨v2, rfl, ho, hb⟩ := hp; obtain ⟨v3, w3, v4, w4, r3, r4, k3, k4, o4, b4⟩ := lay_front (s := s) HV.out (HS.out.trans (hb.mono HS.out.size)) (.inr ⟨_, ho⟩) (HB1.out.on hb) (by have := HSZ.out (); have := HHD.out; omega) HBB.out; have HR3 := Lib.hid r3; have HR4 := Lib.hid r4; have HO4 := Lib.hid o4; have HB4 := Lib.hid (((HS.out.trans (hb.mono HS.out.size)).mono HBB.out).trans b4); obtain ⟨-, -, y2, -, -⟩ := iblk k3; obtain ⟨-, -, -, z3, -⟩ := iblk k4; clear ho hb r3 r4 k3 k4 o4 b4)
      | ((with_reducible refine is_append 46 rfl ?_); (with_reducible refine wpList_append_run rfl rfl HR3.out ?_ ?_ ?_); (· rfl); (· rfl))
      | ((with_reducible refine is_appendT 46 9 rfl ?_); (with_reducible refine wpList_append_run2 rfl rfl HR4.out ?_ ?_ ?_); (· rfl); (· rfl)))
    clear p0 p1 p2 p3 y2 hw1 HC HR3 HR4 HB1 z3
    go_loopw [0, 18] (fun vb i wr => ∃ j : Nat, j ≤ m ∧ i = .int .i64 (j : Int) ∧ RowKit.Hid (Own wr B .u8 5 vb (zs ++ he ++ sbytes s ++ encL (l.take j))) ∧ RowKit.Hid (Below B w wr)) (fun _ i _ => m - (intOf i).toNat)
    case atStart => exact ⟨0, by omega, rfl, Lib.hid (by simpa [encL] using HO4.out), HB4⟩
    case round =>
      obtain ⟨j, hj, rfl, HO, HB⟩ := hrel
      by_cases hlt : j < m
      · as_aux_lemma =>
        have hbn := HB.out.mono HNB.out
        obtain ⟨b, o, X, A', c', rfl, -, hb1, hX, mX, x0, x1, x2, x3, hx⟩ := (HH.out.keep hbn).item (i := j) (by show j < l.length; rw [HM.out]; exact hlt)
        have hX : l[j]? = some X := hX
        have mX : X ∈ l := mX
        have htk := (take_at hX).1
        have hbk := bulkL_append (l.take j) (l.drop j)
        rw [List.take_append_drop] at hbk
        have hbx : X.bulk ≤ bulkL (l.drop j) := by
          rw [List.drop_eq_getElem_cons (take_at hX).2, bulkL]
          have : l[j]'(take_at hX).2 = X := by
            have h2 := hX
            rw [List.getElem?_eq_getElem (take_at hX).2] at h2
            injection h2
          rw [this]
          omega
        have htl := encL_length (l.take j)
        have hcount : X.count ≤ c := by
          have h1 := count_le_of_mem mX
          have h2 := HCC.out ()
          rw [It.count_eq] at h2
          have h3 : (It.mk k nn s l).l = l := rfl
          rw [h3] at h2
          omega
        have S5 := below_alloc wr (.cells #[.int .i64 X.k, .int .u64 X.n, .string X.s, .slice A' X.l.length c'] 31)
        have b5 := Blk.fresh wr 31 #[.int .i64 X.k, .int .u64 X.n, .string X.s, .slice A' X.l.length c']
        have hBr : B ≤ wr.heap.size := Nat.le_trans HBB.out HB.out.size
        have C := IH.out X A' c' n B u0 (zs ++ he ++ sbytes s ++ encL (l.take j)) (wr.alloc (.cells #[.int .i64 X.k, .int .u64 X.n, .string X.s, .slice A' X.l.length c'] 31)) hcount (okEL_iff.1 HOKL.out X mX)
          (by have h1 := HSZ.out (); have h2 := HHD.out; rw [List.length_append, List.length_append, List.length_append, length_sbytes]; omega) (hx.keep (S5.mono (Nat.le_trans HNB.out hBr))) (HO.out.below S5) HNB.out (Nat.le_trans hBr S5.size)
        have HC := Lib.hid C
        have HTK := Lib.hid (show encL (l.take (j + 1)) = encL (l.take j) ++ X.enc by rw [htk, encL_append]; simp [encL])
        have HS5 := Lib.hid (S5.mono hBr)
        have hji : (j : Int) < m := by omega
        clear C S5 b5 hbk hbx htl hcount hX mX htk hx hbn
        go_wp2_with (go_at_call 27; refine HC.out.mono ?_; rintro e w6 ⟨v6, rfl, ho, hb⟩; have HO6 := Lib.hid ho; have HB6 := Lib.hid hb; clear ho hb)
        go_roundw
        case rel =>
          refine ⟨j + 1, by omega, by simp, Lib.hid ?_, Lib.hid (HB.out.trans (HS5.out.trans HB6.out))⟩
          have h1 := HO6.out
          rw [List.append_assoc, ← HTK.out] at h1
          exact h1
        case measure => simp [intOf]; omega
      · obtain rfl : j = m := by omega
        have hfull : l.take j = l := by rw [← HM.out, List.take_length]
        have HOF : RowKit.Hid (Own wr B .u8 5 u0 (zs ++ he ++ sbytes s ++ encL l)) := Lib.hid (by have := HO.out; rwa [hfull] at this)
        clear hml
        go_wp2_with fail
        go_ret
        refine ⟨_, rfl, ?_, HB.out⟩
        rw [It.enc, HHE.out]
        have := HOF.out
        simpa [List.append_assoc] using this
end Go.Proofs.YtgbbgdjdomkohaaGreat

/- Items in order, plain. -/
namespace Go.Proofs.YtgbbgdjdomkohaaGreat

def pairsOf : List It → List (It × It)
  | a :: b :: r => (a, b) :: pairsOf r
  | _ => []
def flatP : List (It × It) → List It
  | [] => []
  | p :: r => p.1 :: p.2 :: flatP r
theorem flat_pairs : ∀ (l : List It), l.length % 2 = 0 → flatP (pairsOf l) = l
  | [], _ => rfl
  | [_], h => by simp at h
  | a :: b :: r, h => by
    rw [pairsOf, flatP, flat_pairs r (by simp only [List.length_cons] at h; omega)]
theorem length_flatP (p : List (It × It)) : (flatP p).length = 2 * p.length := by
  induction p with
  | nil => rfl
  | cons x r ih => simp only [flatP, List.length_cons, ih]; omega
theorem length_pairs : ∀ (l : List It), (pairsOf l).length = l.length / 2
  | [] => rfl
  | [_] => by simp [pairsOf]
  | a :: b :: r => by
    rw [pairsOf, List.length_cons, length_pairs r]
    simp only [List.length_cons]; omega
theorem pairs_get : ∀ (l : List It) (i : Nat), i < (pairsOf l).length → ∃ a b, l[2 * i]? = some a ∧ l[2 * i + 1]? = some b ∧ (pairsOf l)[i]? = some (a, b)
  | [], i, h => by simp [pairsOf] at h
  | [_], i, h => by simp [pairsOf] at h
  | a :: b :: r, 0, _ => ⟨a, b, rfl, rfl, rfl⟩
  | a :: b :: r, i + 1, h => by
    obtain ⟨a', b', h1, h2, h3⟩ := pairs_get r i (by simpa [pairsOf] using h)
    refine ⟨a', b', ?_, ?_, by simpa [pairsOf] using h3⟩
    · rw [show 2 * (i + 1) = 2 * i + 2 by omega]; simpa using h1
    · rw [show 2 * (i + 1) + 1 = 2 * i + 1 + 2 by omega]; simpa using h2
theorem flat_perm {p q : List (It × It)} (h : p.Perm q) : (flatP p).Perm (flatP q) := by
  induction h with
  | nil => exact List.Perm.refl _
  | cons x _ ih => exact (ih.cons _).cons _
  | swap x y l =>
    simp only [flatP]
    have e1 : (y.1 :: y.2 :: x.1 :: x.2 :: flatP l) = [y.1, y.2] ++ ([x.1, x.2] ++ flatP l) := rfl
    have e2 : (x.1 :: x.2 :: y.1 :: y.2 :: flatP l) = [x.1, x.2] ++ ([y.1, y.2] ++ flatP l) := rfl
    rw [e1, e2, ← List.append_assoc, ← List.append_assoc]
    exact List.Perm.append_right _ List.perm_append_comm
  | trans _ _ h1 h2 => exact h1.trans h2
/-- Which pair is ahead. -/
noncomputable def pcmp : It × It → It × It → Int := thenC (fun p q => seqC intC p.1.enc q.1.enc) (fun p q => seqC intC p.2.enc q.2.enc)
theorem pcmp_cmp : Cmp pcmp := (intC_cmp.seq.pull fun p : It × It => p.1.enc).then (intC_cmp.seq.pull fun p : It × It => p.2.enc)
noncomputable def risen (l : List It) : List It := flatP ((pairsOf l).mergeSort fun p q => decide (pcmp p q ≤ 0))
mutual
/-- The item, its maps' pairs in order. -/
noncomputable def It.srt : It → It
  | .mk k n s l => .mk k n s (if k = 5 then risen (srtL l) else srtL l)
noncomputable def srtL : List It → List It
  | [] => []
  | t :: r => t.srt :: srtL r
end
theorem srtL_map (l : List It) : srtL l = l.map It.srt := by
  induction l with
  | nil => rfl
  | cons x r ih => rw [srtL, ih]; rfl
theorem length_srtL (l : List It) : (srtL l).length = l.length := by rw [srtL_map, List.length_map]
theorem risen_perm {l : List It} (h : l.length % 2 = 0) : (risen l).Perm l := by
  have := flat_perm (List.mergeSort_perm (pairsOf l) fun p q => decide (pcmp p q ≤ 0))
  rw [flat_pairs l h] at this
  exact this
theorem pairs_ok : ∀ {l : List It}, okEL l → ∀ p ∈ pairsOf l, p.1.okE ∧ p.2.okE
  | [], _, p, hp => by simp [pairsOf] at hp
  | [_], _, p, hp => by simp [pairsOf] at hp
  | a :: b :: r, h, p, hp => by
    rw [okEL, okEL] at h
    rw [pairsOf] at hp
    rcases List.mem_cons.1 hp with rfl | hp
    · exact ⟨h.1, h.2.1⟩
    · exact pairs_ok h.2.2 p hp
theorem pcmp_zero {p q : It × It} (hp : p.1.okE ∧ p.2.okE) (hq : q.1.okE ∧ q.2.okE) (h : pcmp p q = 0) : p = q := by
  obtain ⟨h1, h2⟩ := thenC_zero.1 h
  exact Prod.ext (enc_inj hp.1 hq.1 (seqC_eq.1 h1)) (enc_inj hp.2 hq.2 (seqC_eq.1 h2))
/-- Pairs in order are those pairs in order. -/
theorem risen_of {l : List It} {d : List (It × It)} (hok : okEL l) (hp : d.Perm (pairsOf l)) (hs : ∀ i j (_ : i < j) (hj : j < d.length), 0 ≤ pcmp d[j] d[i]) : flatP d = risen l := by
  unfold risen
  congr 1
  have hd : ∀ p ∈ d, p.1.okE ∧ p.2.okE := fun p h => pairs_ok hok p (hp.mem_iff.1 h)
  have hms := List.mergeSort_perm (pairsOf l) fun p q => decide (pcmp p q ≤ 0)
  have key : ∀ p q : It × It, pcmp q p = - pcmp p q := fun p q => pcmp_cmp.anti p q
  refine List.Perm.eq_of_pairwise (le := fun p q => pcmp p q ≤ 0) ?_ ?_ ?_ (hp.trans hms.symm)
  · intro p q h1 h2 h3 h4
    exact pcmp_zero (hd p h1) (pairs_ok hok q (hms.mem_iff.1 h2)) (by have := key p q; omega)
  · rw [List.pairwise_iff_getElem]
    intro i j hi hj hij
    have := hs i j hij hj
    have := key d[i] d[j]
    omega
  · have := List.pairwise_mergeSort (le := fun p q => decide (pcmp p q ≤ 0)) (fun a b c h1 h2 => by
      have h1 := of_decide_eq_true h1
      have h2 := of_decide_eq_true h2
      exact decide_eq_true (pcmp_cmp.le_trans h1 h2)) (fun a b => by
      have := key a b
      by_cases h : pcmp a b ≤ 0
      · simp [h]
      · have : pcmp b a ≤ 0 := by omega
        simp [this]) (pairsOf l)
    exact this.imp fun h => of_decide_eq_true h
theorem okTop_len {k n : Int} {s : ByteArray} {l l' : List It} (h : okTop (.mk k n s l)) (hl : l'.length = l.length) : okTop (.mk k n s l') := by
  unfold okTop formB rangB at *
  simp only [It.k, It.n, It.s, It.l] at *
  rw [hl]
  exact h
theorem even5 {k n : Int} {s : ByteArray} {l : List It} (h : okTop (.mk k n s l)) (h5 : k = 5) : l.length % 2 = 0 := by
  rcases ok_kinds h with ⟨a, _⟩ | ⟨a, _⟩ | ⟨a, _⟩ | ⟨_, _, _, a⟩ | ⟨a, _⟩ <;> simp only [It.k, It.l] at a <;> omega
theorem risen_ok {l : List It} (h : l.length % 2 = 0) (hok : okEL l) : okEL (risen l) := okEL_iff.2 fun t ht => okEL_iff.1 hok t ((risen_perm h).mem_iff.1 ht)
mutual
theorem srt_ok (x : It) (h : x.okE) : x.srt.okE := by
  obtain ⟨k, n, s, l⟩ := x
  rw [It.okE] at h
  have hl := length_srtL l
  have ho := srtL_ok l h.2
  rw [It.srt, It.okE]
  by_cases h5 : k = 5
  · have he := even5 h.1 h5
    rw [if_pos h5]
    exact ⟨okTop_len h.1 (by rw [(risen_perm (by omega)).length_eq, hl]), risen_ok (by omega) ho⟩
  · rw [if_neg h5]
    exact ⟨okTop_len h.1 hl, ho⟩
theorem srtL_ok (l : List It) (h : okEL l) : okEL (srtL l) := by
  cases l with
  | nil => exact h
  | cons x r =>
    rw [okEL] at h
    rw [srtL, okEL]
    exact ⟨srt_ok x h.1, srtL_ok r h.2⟩
end
theorem bulkL_perm {a b : List It} (h : a.Perm b) : bulkL a = bulkL b := by
  induction h with
  | nil => rfl
  | cons x _ ih => simp only [bulkL, ih]
  | swap x y l => simp only [bulkL]; omega
  | trans _ _ h1 h2 => exact h1.trans h2
theorem countL_perm {a b : List It} (h : a.Perm b) : countL a = countL b := by
  induction h with
  | nil => rfl
  | cons x _ ih => simp only [countL, ih]
  | swap x y l => simp only [countL]; omega
  | trans _ _ h1 h2 => exact h1.trans h2
mutual
theorem srt_bulk (x : It) (h : x.okE) : x.srt.bulk = x.bulk ∧ x.srt.count = x.count := by
  obtain ⟨k, n, s, l⟩ := x
  rw [It.okE] at h
  have hl := length_srtL l
  have ho := srtL_bulk l h.2
  rw [It.srt, It.bulk, It.bulk, It.count, It.count]
  by_cases h5 : k = 5
  · have he := even5 h.1 h5
    have hp := risen_perm (l := srtL l) (by omega)
    rw [if_pos h5, bulkL_perm hp, countL_perm hp]
    omega
  · rw [if_neg h5]
    omega
theorem srtL_bulk (l : List It) (h : okEL l) : bulkL (srtL l) = bulkL l ∧ countL (srtL l) = countL l := by
  cases l with
  | nil => exact ⟨rfl, rfl⟩
  | cons x r =>
    rw [okEL] at h
    have h1 := srt_bulk x h.1
    have h2 := srtL_bulk r h.2
    rw [srtL, bulkL, bulkL, countL, countL]
    omega
end
end Go.Proofs.YtgbbgdjdomkohaaGreat

/- Encodings are bytes. -/
namespace Go.Proofs.YtgbbgdjdomkohaaGreat
open Go.RowKit

theorem byteL_append {a b : List Int} (h : ByteL a) (k : ByteL b) : ByteL (a ++ b) := fun c hc => (List.mem_append.1 hc).elim (h c) (k c)
theorem byte_hd {t : It} (h : okTop t) : ByteL (hdK t.k t.n t.s.size t.l.length) := by
  obtain ⟨_, _, h0, h1, _, _⟩ := h
  unfold hdK
  split
  · obtain ⟨z, v, hs⟩ := shortest_ex t.n.toNat (by omega)
    rw [fhead_of hs]
    exact byte_lay (by omega) (by omega) (.inr (by have := sh_wid hs; omega))
  · split
    · exact byte_put (by omega) (by omega) (by omega)
    · split
      · exact byte_put (by omega) (by omega) (by omega)
      · split
        · exact byte_put (by omega) (by omega) (by omega)
        · exact byte_put (by omega) (by omega) h0
theorem byte_text (s : ByteArray) : ByteL (sbytes s) := fun c hc => by
  unfold sbytes at hc
  obtain ⟨b, _, rfl⟩ := List.mem_map.1 hc
  have := b.toNat_lt
  omega
mutual
theorem byte_enc (x : It) (h : x.okE) : ByteL x.enc := by
  obtain ⟨k, n, s, l⟩ := x
  rw [It.okE] at h
  rw [It.enc]
  exact byteL_append (byte_hd h.1) (byteL_append (byte_text s) (byte_encL l h.2))
theorem byte_encL (l : List It) (h : okEL l) : ByteL (encL l) := by
  cases l with
  | nil => intro c hc; simp [encL] at hc
  | cons x r =>
    rw [okEL] at h
    rw [encL]
    exact byteL_append (byte_enc x h.1) (byte_encL r h.2)
end
end Go.Proofs.YtgbbgdjdomkohaaGreat
