/- Package enc: headOf. -/
import Derived.Test.YtlipjaopbhdbeaaKBA
import Derived.Test.YtlipjaopbhdbeaaKAU
import Derived.Lib.AppendStr
namespace Go.Proofs.Ytlipjaopbhdbeaa
open Go.RowKit

theorem PutPost.up {w w1 w' : World} {l : List Int} {e : Ending} (S : Below w.heap.size w w1) (h : PutPost w1 l e w') : PutPost w l e w' := by
  obtain ⟨v, rfl, ho, hb⟩ := h
  exact ⟨v, rfl, ho.base S.size, S.trans (hb.mono S.size)⟩
set_option maxRecDepth 100000 in
set_option maxHeartbeats 4000000 in
theorem enc_headOf (t : It) (A : Option Addr) (cap : Nat) (w : World) (h0 : 0 ≤ t.n) (h1 : t.n < 18446744073709551616) (hs : t.s.size ≤ 1099511627776) (hl : t.l.length ≤ 1099511627776) :
    Calls Try.prog 31 #[vI t A cap] w fun e w' => PutPost w (hdK t.k t.n t.s.size t.l.length) e w' := by
  obtain ⟨k, n, s, l⟩ := t
  obtain ⟨w1, hw1, b1, S⟩ := iblk1 w 25 #[.int .i64 k, .int .u64 n, .string s, .slice A l.length cap]
  obtain ⟨p0, p1, p2, p3, -⟩ := iblk b1
  have HS := Lib.hid S
  simp only [vI, It.k, It.n, It.s, It.l] at *
  clear S b1
  by_cases h8 : k = 8
  · subst h8
    have C := head_PutFloat n.toNat (by omega) w1
    rw [show ((n.toNat : Nat) : Int) = n by omega] at C
    have HR : RowKit.Hid (hdK 8 n s.size l.length = fhead n.toNat) := Lib.hid (by unfold hdK; rw [if_pos rfl])
    have HC := Lib.hid C
    clear C h0 h1 hs hl
    go_enter Try.func31, Try.ntmps31
    go_wp2_with (go_at_call 41; refine HC.out.mono ?_; rintro e w2 ⟨z, k', hsh, v, rfl, ho, hb⟩; have HSH := Lib.hid hsh; have HO := Lib.hid ho; have HB := Lib.hid hb; clear hsh ho hb)
    go_ret
    rw [HR.out, fhead_of HSH.out]
    exact PutPost.up HS.out ⟨v, rfl, HO.out, HB.out⟩
  · by_cases h23 : k = 2 ∨ k = 3
    · obtain ⟨ms, hms⟩ : ∃ ms : Int, (s.size : Int) = ms := ⟨_, rfl⟩
      have hm0 : 0 ≤ ms := by omega
      have hm1 : ms < 1099511627777 := by omega
      have C := head_Put k k ms (by omega) hm0 (by omega) w1
      have HR : RowKit.Hid (hdK k n s.size l.length = hputL k ms) := Lib.hid (by unfold hdK; rw [if_neg h8, if_pos h23, hms])
      have HC := Lib.hid C
      have hms' : ((s.size : Nat) : Int) = ms := hms
      clear C h0 h1 hs hl hms
      rcases h23 with rfl | rfl
      · clear h8
        go_enter Try.func31, Try.ntmps31
        go_wp2_with (go_at_call 40; refine HC.out.mono ?_; rintro e w2 hp; obtain ⟨v, rfl, ho, hb⟩ := hp; have HO := Lib.hid ho; have HB := Lib.hid hb; clear ho hb)
        go_ret
        rw [HR.out]
        exact PutPost.up HS.out ⟨v, rfl, HO.out, HB.out⟩
      · clear h8
        go_enter Try.func31, Try.ntmps31
        go_wp2_with (go_at_call 40; refine HC.out.mono ?_; rintro e w2 hp; obtain ⟨v, rfl, ho, hb⟩ := hp; have HO := Lib.hid ho; have HB := Lib.hid hb; clear ho hb)
        go_ret
        rw [HR.out]
        exact PutPost.up HS.out ⟨v, rfl, HO.out, HB.out⟩
    · by_cases h4 : k = 4
      · subst h4
        have HR : RowKit.Hid (hdK 4 n s.size l.length = hputL 4 l.length) := Lib.hid (by unfold hdK; rw [if_neg h8, if_neg h23, if_pos rfl])
        obtain ⟨ms, hms⟩ : ∃ ms : Int, (l.length : Int) = ms := ⟨_, rfl⟩
        have hm0 : 0 ≤ ms := by omega
        have hm1 : ms < 1099511627777 := by omega
        have C := head_Put 4 4 ms (by omega) hm0 (by omega) w1
        rw [← hms] at C
        have HC := Lib.hid C
        have hl' : (l.length : Int) < 1099511627777 := by omega
        clear C h0 h1 hs hl hms h8 h23 hm0 hm1
        go_enter Try.func31, Try.ntmps31
        go_wp2_with (go_at_call 40; refine HC.out.mono ?_; rintro e w2 hp; obtain ⟨v, rfl, ho, hb⟩ := hp; have HO := Lib.hid ho; have HB := Lib.hid hb; clear ho hb)
        go_ret
        rw [HR.out]
        exact PutPost.up HS.out ⟨v, rfl, HO.out, HB.out⟩
      · by_cases h5 : k = 5
        · subst h5
          have HR : RowKit.Hid (hdK 5 n s.size l.length = hputL 5 ((l.length : Int) / 2)) := Lib.hid (by unfold hdK; rw [if_neg h8, if_neg h23, if_neg h4, if_pos rfl]; congr 1)
          have C := head_Put 5 5 ((l.length : Int) / 2) (by omega) (by omega) (by omega) w1
          have HC := Lib.hid C
          have hl' : (l.length : Int) < 1099511627777 := by omega
          clear C h0 h1 hs hl h8 h23 h4
          go_enter Try.func31, Try.ntmps31
          go_wp2_with (go_at_call 40; refine HC.out.mono ?_; rintro e w2 hp; obtain ⟨v, rfl, ho, hb⟩ := hp; have HO := Lib.hid ho; have HB := Lib.hid hb; clear ho hb)
          go_ret
          rw [HR.out]
          exact PutPost.up HS.out ⟨v, rfl, HO.out, HB.out⟩
        · have HR : RowKit.Hid (hdK k n s.size l.length = hputL (k % 8) n) := Lib.hid (by unfold hdK; rw [if_neg h8, if_neg h23, if_neg h4, if_neg h5])
          have C := head_Put k (k % 8) n rfl h0 h1 w1
          have n8 : (k == 8) = false := by simp; omega
          have n2 : (k == 2) = false := by simp; omega
          have n3 : (k == 3) = false := by simp; omega
          have n4 : (k == 4) = false := by simp; omega
          have n5 : (k == 5) = false := by simp; omega
          have HC := Lib.hid C
          clear C h0 h1 hs hl h8 h23 h4 h5
          go_enter Try.func31, Try.ntmps31
          go_wp2_with (go_at_call 40; refine HC.out.mono ?_; rintro e w2 hp; obtain ⟨v, rfl, ho, hb⟩ := hp; have HO := Lib.hid ho; have HB := Lib.hid hb; clear ho hb)
          go_ret
          rw [HR.out]
          exact PutPost.up HS.out ⟨v, rfl, HO.out, HB.out⟩
end Go.Proofs.Ytlipjaopbhdbeaa

/- Package enc: lay. -/
namespace Go.Proofs.Ytlipjaopbhdbeaa
open Go.RowKit

mutual
/-- As many bytes an encoding has at the most. -/
def It.bulk : It → Nat
  | .mk _ _ s l => 9 + s.size + bulkL l
def bulkL : List It → Nat
  | [] => 0
  | t :: r => t.bulk + bulkL r
end
theorem bulkL_append (a b : List It) : bulkL (a ++ b) = bulkL a + bulkL b := by
  induction a with
  | nil => simp [bulkL]
  | cons x r ih => simp [bulkL, ih]; omega
theorem bulk_length (l : List It) : l.length ≤ bulkL l := by
  induction l with
  | nil => simp [bulkL]
  | cons x r ih =>
    have : 1 ≤ x.bulk := by cases x; rw [It.bulk]; omega
    simp only [List.length_cons, bulkL]; omega
theorem hput_length (m a : Int) : (hputL m a).length ≤ 9 := by
  unfold hputL
  split
  · simp
  · rw [hlay_length]
    rcases leastW_in a with ⟨h, _⟩ | h | h | h | h <;> rw [h] <;> decide
theorem hd_length (k n : Int) (m l : Nat) : (hdK k n m l).length ≤ 9 := by
  unfold hdK
  split
  · unfold fhead
    split
    · rename_i h
      rw [hlay_length]
      have := sh_wid h.choose_spec
      omega
    · simp
  · (repeat' split) <;> exact hput_length _ _
mutual
theorem enc_length (x : It) : x.enc.length ≤ x.bulk := by
  obtain ⟨k, n, s, l⟩ := x
  have h1 := hd_length k n s.size l.length
  have h2 := encL_length l
  rw [It.enc, It.bulk, List.length_append, List.length_append, length_sbytes]
  omega
theorem encL_length (l : List It) : (encL l).length ≤ bulkL l := by
  cases l with
  | nil => simp [encL]
  | cons x r =>
    have h1 := enc_length x
    have h2 := encL_length r
    rw [encL, bulkL, List.length_append]
    omega
end
theorem strCells_nums (s : ByteArray) : Lib.strCells s = (sbytes s).map (Value.int .u8) := by
  unfold Lib.strCells sbytes
  rw [List.map_map]
  rfl
theorem u8Info : (Try.prog.info? 5).map (fun i => (i.zero, i.size, i.bytes)) = some (some (.int .u8 0), 1, 1) := by kernel_rfl
/-- append of a text to a slice of the call's own. -/
theorem run_append_text {w : World} {B : Nat} {ty : TypeId} {v : Value} {zs : List Int} (hown : Own w B .u8 5 v zs) (s : ByteArray) (hsz : zs.length + s.size ≤ 1099511627776) (hB : B ≤ w.heap.size) :
    ∃ v' w', (Builtin.append_ #[28, 9] ty #[v, .string s]).run Try.prog w = .ok v' w' ∧ Own w' B .u8 5 v' (zs ++ sbytes s) ∧ Below B w w' ∧ w.grownBy w' v.ownBlock := by
  obtain ⟨i, hi0, hz0, hz1, hz2⟩ := info_parts u8Info
  obtain ⟨v', w', h1, h2, h3, _⟩ := Lib.run_append_own_string (P := Try.prog) (w := w) B 28 9 ty 5 i (by kernel_rfl) (by kernel_rfl) hi0 hz0 hz1 hz2 v zs.length _ hown s (by unfold maxLen; omega) (by omega) hB
  refine ⟨v', w', h1, ?_, hown.grown h3 hB, h3⟩
  unfold Own
  rw [List.length_append, List.map_append, length_sbytes, ← strCells_nums]
  exact h2
theorem is_appendT {P : Program} {ops : Array Oper} {rest : List Oper} {o : Oper} {a : Act} {w : World} {Q : Exit → Act → World → Prop} (t u : TypeId) {s x : Operand} (_ho : o.op = .call { callee := .builtin .append, args := #[s, x], argTypes := #[t, u] }) (h : wpList P ops Q (o :: rest) a w) : wpList P ops Q (o :: rest) a w := h
theorem wpList_append_run2 {P : Program} {ops : Array Oper} {rest : List Oper} {o : Oper} {a : Act} {w w' : World} {Q : Exit → Act → World → Prop} (hgd : o.guard = none) {s x : Operand} {t u : TypeId}
    (ho : o.op = .call { callee := .builtin .append, args := #[s, x], argTypes := #[t, u] }) {v y v' : Value}
    (hr : (Builtin.append_ #[t, u] o.type #[v, y]).run P w = .ok v' w') (hs : a.eval s = v) (hx : a.eval x = y) (h : wpList P ops Q rest (a.put o.dst v') w') : wpList P ops Q (o :: rest) a w := by
  refine wpList_plain hgd fun K hK => ?_
  unfold Oper.wp
  simp only [execOp, ho, resolve, invoke, builtin, Sem.run_bind, Sem.run_pure, Result.andThen_ok, List.map_toArray, List.map_cons, List.map_nil, hs, hx, hr]
  exact hK _ _ h
/-- The two appends of lay. -/
theorem lay_front {w w2 : World} {B : Nat} {v v2 : Value} {zs hs : List Int} {s : ByteArray} {g : Nat} {cs : Array Value} (hv : Own w B .u8 5 v zs) (hS : Below w.heap.size w w2) (h2 : Own w2 w2.heap.size .u8 5 v2 hs ∨ ∃ B2, Own w2 B2 .u8 5 v2 hs) (hg : Blk w2 g 25 cs) (hsz : zs.length + hs.length + s.size ≤ 1099511627776) (hB : B ≤ w.heap.size) :
    ∃ v3 w3 v4 w4, (Builtin.append_ #[28, 28] 28 #[v, v2]).run Try.prog w2 = .ok v3 w3 ∧ (Builtin.append_ #[28, 9] 28 #[v3, .string s]).run Try.prog w3 = .ok v4 w4 ∧
      Blk w3 g 25 cs ∧ Blk w4 g 25 cs ∧ Own w4 B .u8 5 v4 (zs ++ hs ++ sbytes s) ∧ Below B w2 w4 := by
  obtain ⟨B2, o2⟩ : ∃ B2, Own w2 B2 .u8 5 v2 hs := by
    rcases h2 with h | h
    · exact ⟨_, h⟩
    · exact h
  have o1 := hv.below hS
  obtain ⟨A2, cap2, rfl, c1, c2, c3, c4, c5⟩ := o2.form
  obtain ⟨v3, w3, r3, o3, b3, g3⟩ := run_append_nums (P := Try.prog) (t := 28) (ty := 28) (bytes := 1) (by kernel_rfl) u8Info (by omega) o1 c5 c3 (by omega) (Nat.le_trans hB hS.size)
  obtain ⟨v4, w4, r4, o4, b4, g4⟩ := run_append_text (ty := 28) o3 s (by rw [List.length_append]; exact hsz) (Nat.le_trans (Nat.le_trans hB hS.size) b3.size)
  have kept : ∀ {W W' : World} {u : Value} {l : List Int}, Own W B .u8 5 u l → W.grownBy W' u.ownBlock → Blk W g 25 cs → Blk W' g 25 cs := fun {W W' u l} ho hgr hb => by
    refine (hgr.block g hb.lt ?_).trans hb
    rcases blk_ne ho hb (by decide) with e | e
    · rw [e]; intro h; cases h
    · exact fun h => e h.symm
  have k3 := kept o1 g3 hg
  exact ⟨v3, w3, v4, w4, r3, r4, k3, kept o3 g4 k3, o4, b3.trans b4⟩

set_option maxRecDepth 100000 in
set_option maxHeartbeats 4000000 in
theorem enc_lay : ∀ (c : Nat) (x : It) (A : Option Addr) (cap n B : Nat) (v : Value) (zs : List Int) (w : World), x.count ≤ c → x.okE → zs.length + x.bulk ≤ 1099511627776 → AtB w n x A cap → Own w B .u8 5 v zs → n ≤ B → B ≤ w.heap.size →
    Calls Try.prog 26 #[v, vI x A cap] w fun e w' => ∃ v', e = .returned v' ∧ Own w' B .u8 5 v' (zs ++ x.enc) ∧ Below B w w' := by
  intro c
  induction c with
  | zero => intro x A cap n B v zs w h; have := count_pos x; omega
  | succ c ih =>
    intro x A cap n B v zs w hc hok hsz h hv hnB hB
    simp only [vI] at ih
    have IH := Lib.hid ih
    clear ih
    obtain ⟨k, nn, s, l⟩ := x
    have hok' := hok
    rw [It.okE] at hok'
    obtain ⟨⟨_, _, hn0, hn1, _, _⟩, hokl⟩ := hok'
    simp only [It.n] at hn0 hn1
    rw [It.bulk] at hsz
    have hll := bulk_length l
    obtain ⟨w1, hw1, b1, S⟩ := iblk1 w 25 #[.int .i64 k, .int .u64 nn, .string s, .slice A l.length cap]
    obtain ⟨p0, p1, p2, p3, -⟩ := iblk b1
    have C := enc_headOf (.mk k nn s l) A cap w1 hn0 hn1 (by show s.size ≤ _; omega) (by show l.length ≤ _; omega)
    have hhd := hd_length k nn s.size l.length
    have HC := Lib.hid C
    have HHD := Lib.hid hhd
    have HS := Lib.hid S
    have HB1 := Lib.hid b1
    have HV := Lib.hid hv
    have HH := Lib.hid h
    have HNB := Lib.hid hnB
    have HBB := Lib.hid hB
    have HOKL := Lib.hid hokl
    have HSZ := Lib.hid (fun _ : Unit => hsz)
    have HCC := Lib.hid (fun _ : Unit => hc)
    have hml : (l.length : Int) < 1099511627777 := by omega
    clear C hhd S b1 hv h hnB hB hokl hok hsz hc hll hn0 hn1
    simp only [vI, It.k, It.n, It.s, It.l] at HC ⊢
    generalize hhe : hdK k nn s.size l.length = he at *
    have HHE := Lib.hid hhe
    clear hhe
    obtain ⟨m, hm⟩ : ∃ m, l.length = m := ⟨_, rfl⟩
    rw [hm] at hml p3 hw1 HB1 HC ⊢
    have HM := Lib.hid hm
    clear hm
    go_enter Try.func26, Try.ntmps26
    go_wp2_with (first
      | (go_at_call 31; refine HC.out.mono ?_; rintro e w2 hp; obtain ⟨v2, rfl, ho, hb⟩ := hp; obtain ⟨v3, w3, v4, w4, r3, r4, k3, k4, o4, b4⟩ := lay_front (s := s) HV.out (HS.out.trans (hb.mono HS.out.size)) (.inr ⟨_, ho⟩) (HB1.out.on hb) (by have := HSZ.out (); have := HHD.out; omega) HBB.out; have HR3 := Lib.hid r3; have HR4 := Lib.hid r4; have HO4 := Lib.hid o4; have HB4 := Lib.hid (((HS.out.trans (hb.mono HS.out.size)).mono HBB.out).trans b4); obtain ⟨-, -, y2, -, -⟩ := iblk k3; obtain ⟨-, -, -, z3, -⟩ := iblk k4; clear ho hb r3 r4 k3 k4 o4 b4)
      | ((with_reducible refine is_append 28 rfl ?_); (with_reducible refine wpList_append_run rfl rfl HR3.out ?_ ?_ ?_); (· rfl); (· rfl))
      | ((with_reducible refine is_appendT 28 9 rfl ?_); (with_reducible refine wpList_append_run2 rfl rfl HR4.out ?_ ?_ ?_); (· rfl); (· rfl)))
    clear p0 p1 p2 p3 y2 hw1 HC HR3 HR4 HB1 z3
    go_loopw [0, 18] (fun vb i wr => ∃ j : Nat, j ≤ m ∧ i = .int .i64 (j : Int) ∧ RowKit.Hid (Own wr B .u8 5 vb (zs ++ he ++ sbytes s ++ encL (l.take j))) ∧ RowKit.Hid (Below B w wr)) (fun _ i _ => m - (intOf i).toNat)
    case atStart => exact ⟨0, by omega, rfl, Lib.hid (by simpa [encL] using HO4.out), HB4⟩
    case round =>
      obtain ⟨j, hj, rfl, HO, HB⟩ := hrel
      by_cases hlt : j < m
      · as_aux_lemma =>
        have hbn := HB.out.mono HNB.out
        obtain ⟨b, o, X, A', c', rfl, -, hb1, hX, mX, x0, x1, x2, x3, hx⟩ := (HH.out.keep hbn).item (i := j) (by show j < l.length; rw [HM.out]; exact hlt)
        have hX : l[j]? = some X := hX
        have mX : X ∈ l := mX
        have htk := (take_at hX).1
        have hbk := bulkL_append (l.take j) (l.drop j)
        rw [List.take_append_drop] at hbk
        have hbx : X.bulk ≤ bulkL (l.drop j) := by
          rw [List.drop_eq_getElem_cons (take_at hX).2, bulkL]
          have : l[j]'(take_at hX).2 = X := by
            have h2 := hX
            rw [List.getElem?_eq_getElem (take_at hX).2] at h2
            injection h2
          rw [this]
          omega
        have htl := encL_length (l.take j)
        have hcount : X.count ≤ c := by
          have h1 := count_le_of_mem mX
          have h2 := HCC.out ()
          rw [It.count_eq] at h2
          have h3 : (It.mk k nn s l).l = l := rfl
          rw [h3] at h2
          omega
        have S5 := below_alloc wr (.cells #[.int .i64 X.k, .int .u64 X.n, .string X.s, .slice A' X.l.length c'] 25)
        have b5 := Blk.fresh wr 25 #[.int .i64 X.k, .int .u64 X.n, .string X.s, .slice A' X.l.length c']
        have hBr : B ≤ wr.heap.size := Nat.le_trans HBB.out HB.out.size
        have C := IH.out X A' c' n B u0 (zs ++ he ++ sbytes s ++ encL (l.take j)) (wr.alloc (.cells #[.int .i64 X.k, .int .u64 X.n, .string X.s, .slice A' X.l.length c'] 25)) hcount (okEL_iff.1 HOKL.out X mX)
          (by have h1 := HSZ.out (); have h2 := HHD.out; rw [List.length_append, List.length_append, List.length_append, length_sbytes]; omega) (hx.keep (S5.mono (Nat.le_trans HNB.out hBr))) (HO.out.below S5) HNB.out (Nat.le_trans hBr S5.size)
        have HC := Lib.hid C
        have HTK := Lib.hid (show encL (l.take (j + 1)) = encL (l.take j) ++ X.enc by rw [htk, encL_append]; simp [encL])
        have HS5 := Lib.hid (S5.mono hBr)
        have hji : (j : Int) < m := by omega
        clear C S5 b5 hbk hbx htl hcount hX mX htk hx hbn
        go_wp2_with (go_at_call 26; refine HC.out.mono ?_; rintro e w6 ⟨v6, rfl, ho, hb⟩; have HO6 := Lib.hid ho; have HB6 := Lib.hid hb; clear ho hb)
        go_roundw
        case rel =>
          refine ⟨j + 1, by omega, by simp, Lib.hid ?_, Lib.hid (HB.out.trans (HS5.out.trans HB6.out))⟩
          have h1 := HO6.out
          rw [List.append_assoc, ← HTK.out] at h1
          exact h1
        case measure => simp [intOf]; omega
      · obtain rfl : j = m := by omega
        have hfull : l.take j = l := by rw [← HM.out, List.take_length]
        have HOF : RowKit.Hid (Own wr B .u8 5 u0 (zs ++ he ++ sbytes s ++ encL l)) := Lib.hid (by have := HO.out; rwa [hfull] at this)
        clear hml
        go_wp2_with fail
        go_ret
        refine ⟨_, rfl, ?_, HB.out⟩
        rw [It.enc, HHE.out]
        have := HOF.out
        simpa [List.append_assoc] using this
end Go.Proofs.Ytlipjaopbhdbeaa

/- Items in order, plain. -/
namespace Go.Proofs.Ytlipjaopbhdbeaa

def pairsOf : List It → List (It × It)
  | a :: b :: r => (a, b) :: pairsOf r
  | _ => []
def flatP : List (It × It) → List It
  | [] => []
  | p :: r => p.1 :: p.2 :: flatP r
theorem flat_pairs : ∀ (l : List It), l.length % 2 = 0 → flatP (pairsOf l) = l
  | [], _ => rfl
  | [_], h => by simp at h
  | a :: b :: r, h => by
    rw [pairsOf, flatP, flat_pairs r (by simp only [List.length_cons] at h; omega)]
theorem length_flatP (p : List (It × It)) : (flatP p).length = 2 * p.length := by
  induction p with
  | nil => rfl
  | cons x r ih => simp only [flatP, List.length_cons, ih]; omega
theorem length_pairs : ∀ (l : List It), (pairsOf l).length = l.length / 2
  | [] => rfl
  | [_] => by simp [pairsOf]
  | a :: b :: r => by
    rw [pairsOf, List.length_cons, length_pairs r]
    simp only [List.length_cons]; omega
theorem pairs_get : ∀ (l : List It) (i : Nat), i < (pairsOf l).length → ∃ a b, l[2 * i]? = some a ∧ l[2 * i + 1]? = some b ∧ (pairsOf l)[i]? = some (a, b)
  | [], i, h => by simp [pairsOf] at h
  | [_], i, h => by simp [pairsOf] at h
  | a :: b :: r, 0, _ => ⟨a, b, rfl, rfl, rfl⟩
  | a :: b :: r, i + 1, h => by
    obtain ⟨a', b', h1, h2, h3⟩ := pairs_get r i (by simpa [pairsOf] using h)
    refine ⟨a', b', ?_, ?_, by simpa [pairsOf] using h3⟩
    · rw [show 2 * (i + 1) = 2 * i + 2 by omega]; simpa using h1
    · rw [show 2 * (i + 1) + 1 = 2 * i + 1 + 2 by omega]; simpa using h2
theorem flat_perm {p q : List (It × It)} (h : p.Perm q) : (flatP p).Perm (flatP q) := by
  induction h with
  | nil => exact List.Perm.refl _
  | cons x _ ih => exact (ih.cons _).cons _
  | swap x y l =>
    simp only [flatP]
    have e1 : (y.1 :: y.2 :: x.1 :: x.2 :: flatP l) = [y.1, y.2] ++ ([x.1, x.2] ++ flatP l) := rfl
    have e2 : (x.1 :: x.2 :: y.1 :: y.2 :: flatP l) = [x.1, x.2] ++ ([y.1, y.2] ++ flatP l) := rfl
    rw [e1, e2, ← List.append_assoc, ← List.append_assoc]
    exact List.Perm.append_right _ List.perm_append_comm
  | trans _ _ h1 h2 => exact h1.trans h2
/-- Which pair is ahead. -/
noncomputable def pcmp : It × It → It × It → Int := thenC (fun p q => seqC intC p.1.enc q.1.enc) (fun p q => seqC intC p.2.enc q.2.enc)
theorem pcmp_cmp : Cmp pcmp := (intC_cmp.seq.pull fun p : It × It => p.1.enc).then (intC_cmp.seq.pull fun p : It × It => p.2.enc)
noncomputable def risen (l : List It) : List It := flatP ((pairsOf l).mergeSort fun p q => decide (pcmp p q ≤ 0))
mutual
/-- The item, its maps' pairs in order. -/
noncomputable def It.srt : It → It
  | .mk k n s l => .mk k n s (if k = 5 then risen (srtL l) else srtL l)
noncomputable def srtL : List It → List It
  | [] => []
  | t :: r => t.srt :: srtL r
end
theorem srtL_map (l : List It) : srtL l = l.map It.srt := by
  induction l with
  | nil => rfl
  | cons x r ih => rw [srtL, ih]; rfl
theorem length_srtL (l : List It) : (srtL l).length = l.length := by rw [srtL_map, List.length_map]
theorem risen_perm {l : List It} (h : l.length % 2 = 0) : (risen l).Perm l := by
  have := flat_perm (List.mergeSort_perm (pairsOf l) fun p q => decide (pcmp p q ≤ 0))
  rw [flat_pairs l h] at this
  exact this
theorem pairs_ok : ∀ {l : List It}, okEL l → ∀ p ∈ pairsOf l, p.1.okE ∧ p.2.okE
  | [], _, p, hp => by simp [pairsOf] at hp
  | [_], _, p, hp => by simp [pairsOf] at hp
  | a :: b :: r, h, p, hp => by
    rw [okEL, okEL] at h
    rw [pairsOf] at hp
    rcases List.mem_cons.1 hp with rfl | hp
    · exact ⟨h.1, h.2.1⟩
    · exact pairs_ok h.2.2 p hp
theorem pcmp_zero {p q : It × It} (hp : p.1.okE ∧ p.2.okE) (hq : q.1.okE ∧ q.2.okE) (h : pcmp p q = 0) : p = q := by
  obtain ⟨h1, h2⟩ := thenC_zero.1 h
  exact Prod.ext (enc_inj hp.1 hq.1 (seqC_eq.1 h1)) (enc_inj hp.2 hq.2 (seqC_eq.1 h2))
/-- Pairs in order are those pairs in order. -/
theorem risen_of {l : List It} {d : List (It × It)} (hok : okEL l) (hp : d.Perm (pairsOf l)) (hs : ∀ i j (_ : i < j) (hj : j < d.length), 0 ≤ pcmp d[j] d[i]) : flatP d = risen l := by
  unfold risen
  congr 1
  have hd : ∀ p ∈ d, p.1.okE ∧ p.2.okE := fun p h => pairs_ok hok p (hp.mem_iff.1 h)
  have hms := List.mergeSort_perm (pairsOf l) fun p q => decide (pcmp p q ≤ 0)
  have key : ∀ p q : It × It, pcmp q p = - pcmp p q := fun p q => pcmp_cmp.anti p q
  refine List.Perm.eq_of_pairwise (le := fun p q => pcmp p q ≤ 0) ?_ ?_ ?_ (hp.trans hms.symm)
  · intro p q h1 h2 h3 h4
    exact pcmp_zero (hd p h1) (pairs_ok hok q (hms.mem_iff.1 h2)) (by have := key p q; omega)
  · rw [List.pairwise_iff_getElem]
    intro i j hi hj hij
    have := hs i j hij hj
    have := key d[i] d[j]
    omega
  · have := List.pairwise_mergeSort (le := fun p q => decide (pcmp p q ≤ 0)) (fun a b c h1 h2 => by
      have h1 := of_decide_eq_true h1
      have h2 := of_decide_eq_true h2
      exact decide_eq_true (pcmp_cmp.le_trans h1 h2)) (fun a b => by
      have := key a b
      by_cases h : pcmp a b ≤ 0
      · simp [h]
      · have : pcmp b a ≤ 0 := by omega
        simp [this]) (pairsOf l)
    exact this.imp fun h => of_decide_eq_true h
theorem okTop_len {k n : Int} {s : ByteArray} {l l' : List It} (h : okTop (.mk k n s l)) (hl : l'.length = l.length) : okTop (.mk k n s l') := by
  unfold okTop formB rangB at *
  simp only [It.k, It.n, It.s, It.l] at *
  rw [hl]
  exact h
theorem even5 {k n : Int} {s : ByteArray} {l : List It} (h : okTop (.mk k n s l)) (h5 : k = 5) : l.length % 2 = 0 := by
  rcases ok_kinds h with ⟨a, _⟩ | ⟨a, _⟩ | ⟨a, _⟩ | ⟨_, _, _, a⟩ | ⟨a, _⟩ <;> simp only [It.k, It.l] at a <;> omega
theorem risen_ok {l : List It} (h : l.length % 2 = 0) (hok : okEL l) : okEL (risen l) := okEL_iff.2 fun t ht => okEL_iff.1 hok t ((risen_perm h).mem_iff.1 ht)
mutual
theorem srt_ok (x : It) (h : x.okE) : x.srt.okE := by
  obtain ⟨k, n, s, l⟩ := x
  rw [It.okE] at h
  have hl := length_srtL l
  have ho := srtL_ok l h.2
  rw [It.srt, It.okE]
  by_cases h5 : k = 5
  · have he := even5 h.1 h5
    rw [if_pos h5]
    exact ⟨okTop_len h.1 (by rw [(risen_perm (by omega)).length_eq, hl]), risen_ok (by omega) ho⟩
  · rw [if_neg h5]
    exact ⟨okTop_len h.1 hl, ho⟩
theorem srtL_ok (l : List It) (h : okEL l) : okEL (srtL l) := by
  cases l with
  | nil => exact h
  | cons x r =>
    rw [okEL] at h
    rw [srtL, okEL]
    exact ⟨srt_ok x h.1, srtL_ok r h.2⟩
end
theorem bulkL_perm {a b : List It} (h : a.Perm b) : bulkL a = bulkL b := by
  induction h with
  | nil => rfl
  | cons x _ ih => simp only [bulkL, ih]
  | swap x y l => simp only [bulkL]; omega
  | trans _ _ h1 h2 => exact h1.trans h2
theorem countL_perm {a b : List It} (h : a.Perm b) : countL a = countL b := by
  induction h with
  | nil => rfl
  | cons x _ ih => simp only [countL, ih]
  | swap x y l => simp only [countL]; omega
  | trans _ _ h1 h2 => exact h1.trans h2
mutual
theorem srt_bulk (x : It) (h : x.okE) : x.srt.bulk = x.bulk ∧ x.srt.count = x.count := by
  obtain ⟨k, n, s, l⟩ := x
  rw [It.okE] at h
  have hl := length_srtL l
  have ho := srtL_bulk l h.2
  rw [It.srt, It.bulk, It.bulk, It.count, It.count]
  by_cases h5 : k = 5
  · have he := even5 h.1 h5
    have hp := risen_perm (l := srtL l) (by omega)
    rw [if_pos h5, bulkL_perm hp, countL_perm hp]
    omega
  · rw [if_neg h5]
    omega
theorem srtL_bulk (l : List It) (h : okEL l) : bulkL (srtL l) = bulkL l ∧ countL (srtL l) = countL l := by
  cases l with
  | nil => exact ⟨rfl, rfl⟩
  | cons x r =>
    rw [okEL] at h
    have h1 := srt_bulk x h.1
    have h2 := srtL_bulk r h.2
    rw [srtL, bulkL, bulkL, countL, countL]
    omega
end
end Go.Proofs.Ytlipjaopbhdbeaa
