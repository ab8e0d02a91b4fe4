/- Package enc: headOf. -/
import Derived.Test.YtgcgidoikpbfpaaKBD
import Derived.Test.YtgcgidoikpbfpaaKAW
import Derived.Lib.AppendStr
namespace Go.Proofs.Ytgcgidoikpbfpaa
open Go.RowKit

theorem PutPost.up {w w1 w' : World} {l : List Int} {e : Ending} (S : Below w.heap.size w w1) (h : PutPost w1 l e w') : PutPost w l e w' := by
  obtain ⟨v, rfl, ho, hb⟩ := h
  exact ⟨v, rfl, ho.base S.size, S.trans (hb.mono S.size)⟩
set_option maxRecDepth 100000 in
set_option maxHeartbeats 4000000 in
theorem enc_headOf (t : It) (A : Option Addr) (cap : Nat) (w : World) (h0 : 0 ≤ t.n) (h1 : t.n < 18446744073709551616) (hs : t.s.size ≤ 1099511627776) (hl : t.l.length ≤ 1099511627776) :
    Calls Try.prog 26 #[vI t A cap] w fun e w' => PutPost w (hdK t.k t.n t.s.size t.l.length) e w' := by
  obtain ⟨k, n, s, l⟩ := t
  obtain ⟨w1, hw1, b1, S⟩ := iblk1 w 25 #[.int .i64 k, .int .u64 n, .string s, .slice A l.length cap]
  obtain ⟨p0, p1, p2, p3, -⟩ := iblk b1
  have HS := Lib.hid S
  simp only [vI, It.k, It.n, It.s, It.l] at *
  clear S b1
  by_cases h8 : k = 8
  · subst h8
    have C := head_PutFloat n.toNat (by omega) w1
    rw [show ((n.toNat : Nat) : Int) = n by omega] at C
    have HR : RowKit.Hid (hdK 8 n s.size l.length = fhead n.toNat) := Lib.hid (by unfold hdK; rw [if_pos rfl])
    have HC := Lib.hid C
    clear C h0 h1 hs hl
    go_enter Try.func26, Try.ntmps26
    go_wp2_with (go_at_call 34; refine HC.out.mono ?_; rintro e w2 ⟨z, k', hsh, v, rfl, ho, hb⟩; have HSH := Lib.hid hsh; have HO := Lib.hid ho; have HB := Lib.hid hb; clear hsh ho hb)
    go_ret
    rw [HR.out, fhead_of HSH.out]
    exact PutPost.up HS.out ⟨v, rfl, HO.out, HB.out⟩
  · by_cases h23 : k = 2 ∨ k = 3
    · obtain ⟨ms, hms⟩ : ∃ ms : Int, (s.size : Int) = ms := ⟨_, rfl⟩
      have hm0 : 0 ≤ ms := by omega
      have hm1 : ms < 1099511627777 := by omega
      have C := head_Put k k ms (by omega) hm0 (by omega) w1
      have HR : RowKit.Hid (hdK k n s.size l.length = hputL k ms) := Lib.hid (by unfold hdK; rw [if_neg h8, if_pos h23, hms])
      have HC := Lib.hid C
      have hms' : ((s.size : Nat) : Int) = ms := hms
      clear C h0 h1 hs hl hms
      rcases h23 with rfl | rfl
      · clear h8
        go_enter Try.func26, Try.ntmps26
        go_wp2_with (go_at_call 33; refine HC.out.mono ?_; rintro e w2 hp; obtain ⟨v, rfl, ho, hb⟩ := hp; have HO := Lib.hid ho; have HB := Lib.hid hb; clear ho hb)
        go_ret
        rw [HR.out]
        exact PutPost.up HS.out ⟨v, rfl, HO.out, HB.out⟩
      · clear h8
        go_enter Try.func26, Try.ntmps26
        go_wp2_with (go_at_call 33; refine HC.out.mono ?_; rintro e w2 hp; obtain ⟨v, rfl, ho, hb⟩ := hp; have HO := Lib.hid ho; have HB := Lib.hid hb; clear ho hb)
        go_ret
        rw [HR.out]
        exact PutPost.up HS.out ⟨v, rfl, HO.out, HB.out⟩
    · by_cases h4 : k = 4
      · subst h4
        have HR : RowKit.Hid (hdK 4 n s.size l.length = hputL 4 l.length) := Lib.hid (by unfold hdK; rw [if_neg h8, if_neg h23, if_pos rfl])
        obtain ⟨ms, hms⟩ : ∃ ms : Int, (l.length : Int) = ms := ⟨_, rfl⟩
        have hm0 : 0 ≤ ms := by omega
        have hm1 : ms < 1099511627777 := by omega
        have C := head_Put 4 4 ms (by omega) hm0 (by omega) w1
        rw [← hms] at C
        have HC := Lib.hid C
        have hl' : (l.length : Int) < 1099511627777 := by omega
        clear C h0 h1 hs hl hms h8 h23 hm0 hm1
        go_enter Try.func26, Try.ntmps26
        go_wp2_with (go_at_call 33; refine HC.out.mono ?_; rintro e w2 hp; obtain ⟨v, rfl, ho, hb⟩ := hp; have HO := Lib.hid ho; have HB := Lib.hid hb; clear ho hb)
        go_ret
        rw [HR.out]
        exact PutPost.up HS.out ⟨v, rfl, HO.out, HB.out⟩
      · by_cases h5 : k = 5
        · subst h5
          have HR : RowKit.Hid (hdK 5 n s.size l.length = hputL 5 ((l.length : Int) / 2)) := Lib.hid (by unfold hdK; rw [if_neg h8, if_neg h23, if_neg h4, if_pos rfl]; congr 1)
          have C := head_Put 5 5 ((l.length : Int) / 2) (by omega) (by omega) (by omega) w1
          have HC := Lib.hid C
          have hl' : (l.length : Int) < 1099511627777 := by omega
          clear C h0 h1 hs hl h8 h23 h4
          go_enter Try.func26, Try.ntmps26
          go_wp2_with (go_at_call 33; refine HC.out.mono ?_; rintro e w2 hp; obtain ⟨v, rfl, ho, hb⟩ := hp; have HO := Lib.hid ho; have HB := Lib.hid hb; clear ho hb)
          go_ret
          rw [HR.out]
          exact PutPost.up HS.out ⟨v, rfl, HO.out, HB.out⟩
        · have HR : RowKit.Hid (hdK k n s.size l.length = hputL (k % 8) n) := Lib.hid (by unfold hdK; rw [if_neg h8, if_neg h23, if_neg h4, if_neg h5])
          have C := head_Put k (k % 8) n rfl h0 h1 w1
          have n8 : (k == 8) = false := by simp; omega
          have n2 : (k == 2) = false := by simp; omega
          have n3 : (k == 3) = false := by simp; omega
          have n4 : (k == 4) = false := by simp; omega
          have n5 : (k == 5) = false := by simp; omega
          have HC := Lib.hid C
          clear C h0 h1 hs hl h8 h23 h4 h5
          go_enter Try.func26, Try.ntmps26
          go_wp2_with (go_at_call 33; refine HC.out.mono ?_; rintro e w2 hp; obtain ⟨v, rfl, ho, hb⟩ := hp; have HO := Lib.hid ho; have HB := Lib.hid hb; clear ho hb)
          go_ret
          rw [HR.out]
          exact PutPost.up HS.out ⟨v, rfl, HO.out, HB.out⟩
end Go.Proofs.Ytgcgidoikpbfpaa

/- Package enc: lay. -/
namespace Go.Proofs.Ytgcgidoikpbfpaa
open Go.RowKit

mutual
/-- As many bytes an encoding has at the most. -/
def It.bulk : It → Nat
  | .mk _ _ s l => 9 + s.size + bulkL l
def bulkL : List It → Nat
  | [] => 0
  | t :: r => t.bulk + bulkL r
end
theorem bulkL_append (a b : List It) : bulkL (a ++ b) = bulkL a + bulkL b := by
  induction a with
  | nil => simp [bulkL]
  | cons x r ih => simp [bulkL, ih]; omega
theorem bulk_length (l : List It) : l.length ≤ bulkL l := by
  induction l with
  | nil => simp [bulkL]
  | cons x r ih =>
    have : 1 ≤ x.bulk := by cases x; rw [It.bulk]; omega
    simp only [List.length_cons, bulkL]; omega
theorem hput_length (m a : Int) : (hputL m a).length ≤ 9 := by
  unfold hputL
  split
  · simp
  · rw [hlay_length]
    rcases leastW_in a with ⟨h, _⟩ | h | h | h | h <;> rw [h] <;> decide
theorem hd_length (k n : Int) (m l : Nat) : (hdK k n m l).length ≤ 9 := by
  unfold hdK
  split
  · unfold fhead
    split
    · rename_i h
      rw [hlay_length]
      have := sh_wid h.choose_spec
      omega
    · simp
  · (repeat' split) <;> exact hput_length _ _
mutual
theorem enc_length (x : It) : x.enc.length ≤ x.bulk := by
  obtain ⟨k, n, s, l⟩ := x
  have h1 := hd_length k n s.size l.length
  have h2 := encL_length l
  rw [It.enc, It.bulk, List.length_append, List.length_append, length_sbytes]
  omega
theorem encL_length (l : List It) : (encL l).length ≤ bulkL l := by
  cases l with
  | nil => simp [encL]
  | cons x r =>
    have h1 := enc_length x
    have h2 := encL_length r
    rw [encL, bulkL, List.length_append]
    omega
end
theorem strCells_nums (s : ByteArray) : Lib.strCells s = (sbytes s).map (Value.int .u8) := by
  unfold Lib.strCells sbytes
  rw [List.map_map]
  rfl
theorem u8Info : (Try.prog.info? 5).map (fun i => (i.zero, i.size, i.bytes)) = some (some (.int .u8 0), 1, 1) := by kernel_rfl
/-- append of a text to a slice of the call's own. -/
theorem run_append_text {w : World} {B : Nat} {ty : TypeId} {v : Value} {zs : List Int} (hown : Own w B .u8 5 v zs) (s : ByteArray) (hsz : zs.length + s.size ≤ 1099511627776) (hB : B ≤ w.heap.size) :
    ∃ v' w', (Builtin.append_ #[52, 9] ty #[v, .string s]).run Try.prog w = .ok v' w' ∧ Own w' B .u8 5 v' (zs ++ sbytes s) ∧ Below B w w' ∧ w.grownBy w' v.ownBlock := by
  obtain ⟨i, hi0, hz0, hz1, hz2⟩ := info_parts u8Info
  obtain ⟨v', w', h1, h2, h3, _⟩ := Lib.run_append_own_string (P := Try.prog) (w := w) B 52 9 ty 5 i (by kernel_rfl) (by kernel_rfl) hi0 hz0 hz1 hz2 v zs.length _ hown s (by unfold maxLen; omega) (by omega) hB
  refine ⟨v', w', h1, ?_, hown.grown h3 hB, h3⟩
  unfold Own
  rw [List.length_append, List.map_append, length_sbytes, ← strCells_nums]
  exact h2
theorem is_appendT {P : Program} {ops : Array Oper} {rest : List Oper} {o : Oper} {a : Act} {w : World} {Q : Exit → Act → World → Prop} (t u : TypeId) {s x : Operand} (_ho : o.op = .call { callee := .builtin .append, args := #[s, x], argTypes := #[t, u] }) (h : wpList P ops Q (o :: rest) a w) : wpList P ops Q (o :: rest) a w := h
theorem wpList_append_run2 {P : Program} {ops : Array Oper} {rest : List Oper} {o : Oper} {a : Act} {w w' : World} {Q : Exit → Act → World → Prop} (hgd : o.guard = none) {s x : Operand} {t u : TypeId}
    (ho : o.op = .call { callee := .builtin .append, args := #[s, x], argTypes := #[t, u] }) {v y v' : Value}
    (hr : (Builtin.append_ #[t, u] o.type #[v, y]).run P w = .ok v' w') (hs : a.eval s = v) (hx : a.eval x = y) (h : wpList P ops Q rest (a.put o.dst v') w') : wpList P ops Q (o :: rest) a w := by
  refine wpList_plain hgd fun K hK => ?_
  unfold Oper.wp
  simp only [execOp, ho, resolve, invoke, builtin, Sem.run_bind, Sem.run_pure, Result.andThen_ok, List.map_toArray, List.map_cons, List.map_nil, hs, hx, hr]
  exact hK _ _ h
/-- The two appends of lay. -/
theorem lay_front {w w2 : World} {B : Nat} {v v2 : Value} {zs hs : List Int} {s : ByteArray} {g : Nat} {cs : Array Value} (hv : Own w B .u8 5 v zs) (hS : Below w.heap.size w w2) (h2 : Own w2 w2.heap.size .u8 5 v2 hs ∨ ∃ B2, Own w2 B2 .u8 5 v2 hs) (hg : Blk w2 g 25 cs) (hsz : zs.length + hs.length + s.size ≤ 1099511627776) (hB : B ≤ w.heap.size) :
    ∃ v3 w3 v4 w4, (Builtin.append_ #[52, 52] 52 #[v, v2]).run Try.prog w2 = .ok v3 w3 ∧ (Builtin.append_ #[52, 9] 52 #[v3, .string s]).run Try.prog w3 = .ok v4 w4 ∧
      Blk w3 g 25 cs ∧ Blk w4 g 25 cs ∧ Own w4 B .u8 5 v4 (zs ++ hs ++ sbytes s) ∧ Below B w2 w4 := by
  obtain ⟨B2, o2⟩ : ∃ B2, Own w2 B2 .u8 5 v2 hs := by
    rcases h2 with h | h
    · exact ⟨_, h⟩
    · exact h
  have o1 := hv.below hS
  obtain ⟨A2, cap2, rfl, c1, c2, c3, c4, c5⟩ := o2.form
  obtain ⟨v3, w3, r3, o3, b3, g3⟩ := run_append_nums (P := Try.prog) (t := 52) (ty := 52) (bytes := 1) (by kernel_rfl) u8Info (by omega) o1 c5 c3 (by omega) (Nat.le_trans hB hS.size)
  obtain ⟨v4, w4, r4, o4, b4, g4⟩ := run_append_text (ty := 52) o3 s (by rw [List.length_append]; exact hsz) (Nat.le_trans (Nat.le_trans hB hS.size) b3.size)
  have kept : ∀ {W W' : World} {u : Value} {l : List Int}, Own W B .u8 5 u l → W.grownBy W' u.ownBlock → Blk W g 25 cs → Blk W' g 25 cs := fun {W W' u l} ho hgr hb => by
    refine (hgr.block g hb.lt ?_).trans hb
    rcases blk_ne ho hb (by decide) with e | e
    · rw [e]; intro h; cases h
    · exact fun h => e h.symm
  have k3 := kept o1 g3 hg
  exact ⟨v3, w3, v4, w4, r3, r4, k3, kept o3 g4 k3, o4, b3.trans b4⟩

end Go.Proofs.Ytgcgidoikpbfpaa
