/- Package enc: headOf. -/
import Derived.Test.YtgcgidoikpbfpaaGreatKAZ
import Derived.Test.YtgcgidoikpbfpaaGreatKAU
import Derived.Lib.AppendStr
import Derived.Test.YtgcgidoikpbfpaaGreatKAX
import Derived.Shelf.SlGeneric
import Derived.Ground.SlsfProg
import Derived.Shelf.SlLaysF0
import Derived.Shelf.SlLaysF
import Derived.Test.YtgcgidoikpbfpaaGreatProg
import Derived.Shelf.SlSortCmp.WholeK
namespace Go.Proofs.YtgcgidoikpbfpaaGreat
open Go.RowKit

theorem PutPost.up {w w1 w' : World} {l : List Int} {e : Ending} (S : Below w.heap.size w w1) (h : PutPost w1 l e w') : PutPost w l e w' := by
  obtain ⟨v, rfl, ho, hb⟩ := h
  exact ⟨v, rfl, ho.base S.size, S.trans (hb.mono S.size)⟩
set_option maxRecDepth 100000 in
set_option maxHeartbeats 4000000 in
theorem enc_headOf (t : It) (A : Option Addr) (cap : Nat) (w : World) (h0 : 0 ≤ t.n) (h1 : t.n < 18446744073709551616) (hs : t.s.size ≤ 1099511627776) (hl : t.l.length ≤ 1099511627776) :
    Calls Tryz.prog 42 #[vI t A cap] w fun e w' => PutPost w (hdK t.k t.n t.s.size t.l.length) e w' := by
  obtain ⟨k, n, s, l⟩ := t
  obtain ⟨w1, hw1, b1, S⟩ := iblk1 w 25 #[.int .i64 k, .int .u64 n, .string s, .slice A l.length cap]
  obtain ⟨p0, p1, p2, p3, -⟩ := iblk b1
  have HS := Lib.hid S
  simp only [vI, It.k, It.n, It.s, It.l] at *
  clear S b1
  by_cases h8 : k = 8
  · subst h8
    have C := head_PutFloat n.toNat (by omega) w1
    rw [show ((n.toNat : Nat) : Int) = n by omega] at C
    have HR : RowKit.Hid (hdK 8 n s.size l.length = fhead n.toNat) := Lib.hid (by unfold hdK; rw [if_pos rfl])
    have HC := Lib.hid C
    clear C h0 h1 hs hl
    go_enter Tryz.func42, Tryz.ntmps42
    go_wp2_with (go_at_call 53; refine HC.out.mono ?_; rintro e w2 ⟨z, k', hsh, v, rfl, ho, hb⟩; have HSH := Lib.hid hsh; have HO := Lib.hid ho; have HB := Lib.hid hb; clear hsh ho hb)
    go_ret
    rw [HR.out, fhead_of HSH.out]
    exact PutPost.up HS.out ⟨v, rfl, HO.out, HB.out⟩
  · by_cases h23 : k = 2 ∨ k = 3
    · obtain ⟨ms, hms⟩ : ∃ ms : Int, (s.size : Int) = ms := ⟨_, rfl⟩
      have hm0 : 0 ≤ ms := by omega
      have hm1 : ms < 1099511627777 := by omega
      have C := head_Put k k ms (by omega) hm0 (by omega) w1
      have HR : RowKit.Hid (hdK k n s.size l.length = hputL k ms) := Lib.hid (by unfold hdK; rw [if_neg h8, if_pos h23, hms])
      have HC := Lib.hid C
      have hms' : ((s.size : Nat) : Int) = ms := hms
      clear C h0 h1 hs hl hms
      rcases h23 with rfl | rfl
      · clear h8
        go_enter Tryz.func42, Tryz.ntmps42
        go_wp2_with (go_at_call 52; refine HC.out.mono ?_; rintro e w2 hp; obtain ⟨v, rfl, ho, hb⟩ := hp; have HO := Lib.hid ho; have HB := Lib.hid hb; clear ho hb)
        go_ret
        rw [HR.out]
        exact PutPost.up HS.out ⟨v, rfl, HO.out, HB.out⟩
      · clear h8
        go_enter Tryz.func42, Tryz.ntmps42
        go_wp2_with (go_at_call 52; refine HC.out.mono ?_; rintro e w2 hp; obtain ⟨v, rfl, ho, hb⟩ := hp; have HO := Lib.hid ho; have HB := Lib.hid hb; clear ho hb)
        go_ret
        rw [HR.out]
        exact PutPost.up HS.out ⟨v, rfl, HO.out, HB.out⟩
    · by_cases h4 : k = 4
      · subst h4
        have HR : RowKit.Hid (hdK 4 n s.size l.length = hputL 4 l.length) := Lib.hid (by unfold hdK; rw [if_neg h8, if_neg h23, if_pos rfl])
        obtain ⟨ms, hms⟩ : ∃ ms : Int, (l.length : Int) = ms := ⟨_, rfl⟩
        have hm0 : 0 ≤ ms := by omega
        have hm1 : ms < 1099511627777 := by omega
        have C := head_Put 4 4 ms (by omega) hm0 (by omega) w1
        rw [← hms] at C
        have HC := Lib.hid C
        have hl' : (l.length : Int) < 1099511627777 := by omega
        clear C h0 h1 hs hl hms h8 h23 hm0 hm1
        go_enter Tryz.func42, Tryz.ntmps42
        go_wp2_with (go_at_call 52; refine HC.out.mono ?_; rintro e w2 hp; obtain ⟨v, rfl, ho, hb⟩ := hp; have HO := Lib.hid ho; have HB := Lib.hid hb; clear ho hb)
        go_ret
        rw [HR.out]
        exact PutPost.up HS.out ⟨v, rfl, HO.out, HB.out⟩
      · by_cases h5 : k = 5
        · subst h5
          have HR : RowKit.Hid (hdK 5 n s.size l.length = hputL 5 ((l.length : Int) / 2)) := Lib.hid (by unfold hdK; rw [if_neg h8, if_neg h23, if_neg h4, if_pos rfl]; congr 1)
          have C := head_Put 5 5 ((l.length : Int) / 2) (by omega) (by omega) (by omega) w1
          have HC := Lib.hid C
          have hl' : (l.length : Int) < 1099511627777 := by omega
          clear C h0 h1 hs hl h8 h23 h4
          go_enter Tryz.func42, Tryz.ntmps42
          go_wp2_with (go_at_call 52; refine HC.out.mono ?_; rintro e w2 hp; obtain ⟨v, rfl, ho, hb⟩ := hp; have HO := Lib.hid ho; have HB := Lib.hid hb; clear ho hb)
          go_ret
          rw [HR.out]
          exact PutPost.up HS.out ⟨v, rfl, HO.out, HB.out⟩
        · have HR : RowKit.Hid (hdK k n s.size l.length = hputL (k % 8) n) := Lib.hid (by unfold hdK; rw [if_neg h8, if_neg h23, if_neg h4, if_neg h5])
          have C := head_Put k (k % 8) n rfl h0 h1 w1
          have n8 : (k == 8) = false := by simp; omega
          have n2 : (k == 2) = false := by simp; omega
          have n3 : (k == 3) = false := by simp; omega
          have n4 : (k == 4) = false := by simp; omega
          have n5 : (k == 5) = false := by simp; omega
          have HC := Lib.hid C
          clear C h0 h1 hs hl h8 h23 h4 h5
          go_enter Tryz.func42, Tryz.ntmps42
          go_wp2_with (go_at_call 52; refine HC.out.mono ?_; rintro e w2 hp; obtain ⟨v, rfl, ho, hb⟩ := hp; have HO := Lib.hid ho; have HB := Lib.hid hb; clear ho hb)
          go_ret
          rw [HR.out]
          exact PutPost.up HS.out ⟨v, rfl, HO.out, HB.out⟩
end Go.Proofs.YtgcgidoikpbfpaaGreat

/- Package enc: lay. -/
namespace Go.Proofs.YtgcgidoikpbfpaaGreat
open Go.RowKit

mutual
/-- As many bytes an encoding has at the most. -/
def It.bulk : It → Nat
  | .mk _ _ s l => 9 + s.size + bulkL l
def bulkL : List It → Nat
  | [] => 0
  | t :: r => t.bulk + bulkL r
end
theorem bulkL_append (a b : List It) : bulkL (a ++ b) = bulkL a + bulkL b := by
  induction a with
  | nil => simp [bulkL]
  | cons x r ih => simp [bulkL, ih]; omega
theorem bulk_length (l : List It) : l.length ≤ bulkL l := by
  induction l with
  | nil => simp [bulkL]
  | cons x r ih =>
    have : 1 ≤ x.bulk := by cases x; rw [It.bulk]; omega
    simp only [List.length_cons, bulkL]; omega
theorem hput_length (m a : Int) : (hputL m a).length ≤ 9 := by
  unfold hputL
  split
  · simp
  · rw [hlay_length]
    rcases leastW_in a with ⟨h, _⟩ | h | h | h | h <;> rw [h] <;> decide
theorem hd_length (k n : Int) (m l : Nat) : (hdK k n m l).length ≤ 9 := by
  unfold hdK
  split
  · unfold fhead
    split
    · rename_i h
      rw [hlay_length]
      have := sh_wid h.choose_spec
      omega
    · simp
  · (repeat' split) <;> exact hput_length _ _
mutual
theorem enc_length (x : It) : x.enc.length ≤ x.bulk := by
  obtain ⟨k, n, s, l⟩ := x
  have h1 := hd_length k n s.size l.length
  have h2 := encL_length l
  rw [It.enc, It.bulk, List.length_append, List.length_append, length_sbytes]
  omega
theorem encL_length (l : List It) : (encL l).length ≤ bulkL l := by
  cases l with
  | nil => simp [encL]
  | cons x r =>
    have h1 := enc_length x
    have h2 := encL_length r
    rw [encL, bulkL, List.length_append]
    omega
end
theorem strCells_nums (s : ByteArray) : Lib.strCells s = (sbytes s).map (Value.int .u8) := by
  unfold Lib.strCells sbytes
  rw [List.map_map]
  rfl
theorem u8Info : (Tryz.prog.info? 5).map (fun i => (i.zero, i.size, i.bytes)) = some (some (.int .u8 0), 1, 1) := by kernel_rfl
/-- append of a text to a slice of the call's own. -/
theorem run_append_text {w : World} {B : Nat} {ty : TypeId} {v : Value} {zs : List Int} (hown : Own w B .u8 5 v zs) (s : ByteArray) (hsz : zs.length + s.size ≤ 1099511627776) (hB : B ≤ w.heap.size) :
    ∃ v' w', (Builtin.append_ #[50, 9] ty #[v, .string s]).run Tryz.prog w = .ok v' w' ∧ Own w' B .u8 5 v' (zs ++ sbytes s) ∧ Below B w w' ∧ w.grownBy w' v.ownBlock := by
  obtain ⟨i, hi0, hz0, hz1, hz2⟩ := info_parts u8Info
  obtain ⟨v', w', h1, h2, h3, _⟩ := Lib.run_append_own_string (P := Tryz.prog) (w := w) B 50 9 ty 5 i (by kernel_rfl) (by kernel_rfl) hi0 hz0 hz1 hz2 v zs.length _ hown s (by unfold maxLen; omega) (by omega) hB
  refine ⟨v', w', h1, ?_, hown.grown h3 hB, h3⟩
  unfold Own
  rw [List.length_append, List.map_append, length_sbytes, ← strCells_nums]
  exact h2
theorem is_appendT {P : Program} {ops : Array Oper} {rest : List Oper} {o : Oper} {a : Act} {w : World} {Q : Exit → Act → World → Prop} (t u : TypeId) {s x : Operand} (_ho : o.op = .call { callee := .builtin .append, args := #[s, x], argTypes := #[t, u] }) (h : wpList P ops Q (o :: rest) a w) : wpList P ops Q (o :: rest) a w := h
theorem wpList_append_run2 {P : Program} {ops : Array Oper} {rest : List Oper} {o : Oper} {a : Act} {w w' : World} {Q : Exit → Act → World → Prop} (hgd : o.guard = none) {s x : Operand} {t u : TypeId}
    (ho : o.op = .call { callee := .builtin .append, args := #[s, x], argTypes := #[t, u] }) {v y v' : Value}
    (hr : (Builtin.append_ #[t, u] o.type #[v, y]).run P w = .ok v' w') (hs : a.eval s = v) (hx : a.eval x = y) (h : wpList P ops Q rest (a.put o.dst v') w') : wpList P ops Q (o :: rest) a w := by
  refine wpList_plain hgd fun K hK => ?_
  unfold Oper.wp
  simp only [execOp, ho, resolve, invoke, builtin, Sem.run_bind, Sem.run_pure, Result.andThen_ok, List.map_toArray, List.map_cons, List.map_nil, hs, hx, hr]
  exact hK _ _ h
/-- The two appends of lay. -/
theorem lay_front {w w2 : World} {B : Nat} {v v2 : Value} {zs hs : List Int} {s : ByteArray} {g : Nat} {cs : Array Value} (hv : Own w B .u8 5 v zs) (hS : Below w.heap.size w w2) (h2 : Own w2 w2.heap.size .u8 5 v2 hs ∨ ∃ B2, Own w2 B2 .u8 5 v2 hs) (hg : Blk w2 g 25 cs) (hsz : zs.length + hs.length + s.size ≤ 1099511627776) (hB : B ≤ w.heap.size) :
    ∃ v3 w3 v4 w4, (Builtin.append_ #[50, 50] 50 #[v, v2]).run Tryz.prog w2 = .ok v3 w3 ∧ (Builtin.append_ #[50, 9] 50 #[v3, .string s]).run Tryz.prog w3 = .ok v4 w4 ∧
      Blk w3 g 25 cs ∧ Blk w4 g 25 cs ∧ Own w4 B .u8 5 v4 (zs ++ hs ++ sbytes s) ∧ Below B w2 w4 := by
  obtain ⟨B2, o2⟩ : ∃ B2, Own w2 B2 .u8 5 v2 hs := by
    rcases h2 with h | h
    · exact ⟨_, h⟩
    · exact h
  have o1 := hv.below hS
  obtain ⟨A2, cap2, rfl, c1, c2, c3, c4, c5⟩ := o2.form
  obtain ⟨v3, w3, r3, o3, b3, g3⟩ := run_append_nums (P := Tryz.prog) (t := 50) (ty := 50) (bytes := 1) (by kernel_rfl) u8Info (by omega) o1 c5 c3 (by omega) (Nat.le_trans hB hS.size)
  obtain ⟨v4, w4, r4, o4, b4, g4⟩ := run_append_text (ty := 50) o3 s (by rw [List.length_append]; exact hsz) (Nat.le_trans (Nat.le_trans hB hS.size) b3.size)
  have kept : ∀ {W W' : World} {u : Value} {l : List Int}, Own W B .u8 5 u l → W.grownBy W' u.ownBlock → Blk W g 25 cs → Blk W' g 25 cs := fun {W W' u l} ho hgr hb => by
    refine (hgr.block g hb.lt ?_).trans hb
    rcases blk_ne ho hb (by decide) with e | e
    · rw [e]; intro h; cases h
    · exact fun h => e h.symm
  have k3 := kept o1 g3 hg
  exact ⟨v3, w3, v4, w4, r3, r4, k3, kept o3 g4 k3, o4, b3.trans b4⟩

end Go.Proofs.YtgcgidoikpbfpaaGreat

/- Package item: All. -/
namespace Go.Proofs.YtgcgidoikpbfpaaGreat
open Go.RowKit Go.Shelf
attribute [local go_sem] Oper.semAt_some

/-- How deep all stand, in all. -/
def tdSum {w : World} {n : Nat} {X0 : It} (pre : List (TD w n X0)) : Nat := (pre.map fun z => z.1.d).sum
def deepSum (x : It) : Nat := ((x.items 1).map (·.1)).sum
theorem tdSum_snoc {w : World} {n : Nat} {X0 : It} (pre : List (TD w n X0)) (z : TD w n X0) : tdSum (pre ++ [z]) = tdSum pre + z.1.d := by simp [tdSum]
theorem tdSum_all {w : World} {n : Nat} {X0 : It} {xs : List (TD w n X0)} {x : It} (h : xs.map tdOf = x.items 1) : tdSum xs = deepSum x := by
  unfold tdSum deepSum
  rw [← h, List.map_map]
  rfl
theorem tdSum_pre {w : World} {n : Nat} {X0 : It} {pre : List (TD w n X0)} {x : It} (h : pre.map tdOf <+: x.items 1) : tdSum pre ≤ deepSum x := by
  obtain ⟨r, hr⟩ := h
  unfold tdSum deepSum
  rw [← hr, List.map_append, List.sum_append, List.map_map]
  exact Nat.le_add_right _ _
theorem Cpd.atB {w : World} {n B : Nat} {x : It} {A : Option Addr} {cap : Nat} (h : Cpd w n B x.l A cap) : AtB w w.heap.size x A cap :=
  AtV.toB ⟨h.1, h.2.1, h.at.more fun _ _ => trivial⟩

end Go.Proofs.YtgcgidoikpbfpaaGreat

/- Package item: what All hands back. -/
namespace Go.Proofs.YtgcgidoikpbfpaaGreat
open Go.RowKit Go.Shelf
attribute [local go_sem] Oper.semAt_some

def toldV (z : Told) : Array Value := #[.int .i64 (z.d : Int), vI z.t z.A z.cap]
def toldOf (z : Told) : Nat × It := (z.d, z.t)
/-- How it lies in memory. -/
def OkT (B : Nat) (z : Told) (W : World) : Prop := z.t.l.length ≤ z.cap ∧ (z.A = none → z.cap = 0) ∧ AtL W (B ≤ ·) z.t.l z.A
theorem told_size (z : Told) : (toldV z).size = 2 := rfl

end Go.Proofs.YtgcgidoikpbfpaaGreat

/- Where the library's bodies lie in this program. -/
namespace Go.Proofs.YtgcgidoikpbfpaaGreat
open Go.Shelf
def Tryz.sortItems_ren : Go.Shelf.Ren := ⟨fun | 6 => 49 | 15 => 58 | 14 => 57 | 28 => 76 | 29 => 77 | 20 => 68 | 21 => 69 | 22 => 70 | 23 => 71 | 24 => 72 | 25 => 73 | 26 => 74 | 27 => 75 | 46 => 89 | 47 => 90 | 48 => 91 | 49 => 92 | 50 => 93 | 57 => 102 | n => n, fun | 22 => 23 | 24 => 25 | 25 => 80 | 3 => 3 | 39 => 57 | 0 => 0 | 53 => 104 | 55 => 22 | 4 => 4 | 46 => 98 | 45 => 97 | 50 => 47 | 5 => 5 | 9 => 9 | 66 => 114 | 70 => 118 | 76 => 125 | 77 => 58 | n => n, fun | n => n⟩
theorem Tryz.sortItems : Go.Proofs.SlLaysF0.n6 Tryz.prog Tryz.sortItems_ren := {
  mixed := by kernel_rfl
  f6 := ⟨Tryz.f49.name, by decide, Tryz.func49.trans (congrArg some (by kernel_rfl))⟩
  f14 := ⟨Tryz.f57.name, by decide, Tryz.func57.trans (congrArg some (by kernel_rfl))⟩
  f15 := Tryz.func58.trans (congrArg some (by kernel_rfl))
  f20 := ⟨Tryz.f68.name, by decide, Tryz.func68.trans (congrArg some (by kernel_rfl))⟩
  f21 := ⟨Tryz.f69.name, by decide, Tryz.func69.trans (congrArg some (by kernel_rfl))⟩
  f22 := ⟨Tryz.f70.name, by decide, Tryz.func70.trans (congrArg some (by kernel_rfl))⟩
  f23 := ⟨Tryz.f71.name, by decide, Tryz.func71.trans (congrArg some (by kernel_rfl))⟩
  f24 := ⟨Tryz.f72.name, by decide, Tryz.func72.trans (congrArg some (by kernel_rfl))⟩
  f25 := ⟨Tryz.f73.name, by decide, Tryz.func73.trans (congrArg some (by kernel_rfl))⟩
  f26 := ⟨Tryz.f74.name, by decide, Tryz.func74.trans (congrArg some (by kernel_rfl))⟩
  f27 := ⟨Tryz.f75.name, by decide, Tryz.func75.trans (congrArg some (by kernel_rfl))⟩
  f28 := Tryz.func76.trans (congrArg some (by kernel_rfl))
  f29 := Tryz.func77.trans (congrArg some (by kernel_rfl))
  f46 := ⟨Tryz.f89.name, by decide, Tryz.func89.trans (congrArg some (by kernel_rfl))⟩
  f47 := Tryz.func90.trans (congrArg some (by kernel_rfl))
  f48 := Tryz.func91.trans (congrArg some (by kernel_rfl))
  f49 := ⟨Tryz.f92.name, by decide, Tryz.func92.trans (congrArg some (by kernel_rfl))⟩
  f50 := ⟨Tryz.f93.name, by decide, Tryz.func93.trans (congrArg some (by kernel_rfl))⟩
  f57 := ⟨Tryz.f102.name, by decide, Tryz.func102.trans (congrArg some (by kernel_rfl))⟩
  t0 := Tryz.underlying0
  a0 := Tryz.isAgg0
  z0 := Tryz.sizeOf0
  v0 := Tryz.zeroValue0
  t3 := Tryz.underlying3
  a3 := Tryz.isAgg3
  z3 := Tryz.sizeOf3
  v3 := Tryz.zeroValue3
  t4 := Tryz.underlying4
  a4 := Tryz.isAgg4
  z4 := Tryz.sizeOf4
  v4 := Tryz.zeroValue4
  t5 := Tryz.underlying5
  a5 := Tryz.isAgg5
  z5 := Tryz.sizeOf5
  v5 := Tryz.zeroValue5
  t9 := Tryz.underlying9
  a9 := Tryz.isAgg9
  z9 := Tryz.sizeOf9
  v9 := Tryz.zeroValue9
  t22 := Tryz.underlying23
  a22 := Tryz.isAgg23
  z22 := Tryz.sizeOf23
  v22 := Tryz.zeroValue23
  t25 := Tryz.underlying80
  a25 := Tryz.isAgg80
  z25 := Tryz.sizeOf80
  v25 := Tryz.zeroValue80
  t39 := Tryz.underlying57
  a39 := Tryz.isAgg57
  z39 := Tryz.sizeOf57
  v39 := Tryz.zeroValue57
  t45 := Tryz.underlying97
  a45 := Tryz.isAgg97
  z45 := Tryz.sizeOf97
  v45 := Tryz.zeroValue97
  t46 := Tryz.underlying98
  a46 := Tryz.isAgg98
  z46 := Tryz.sizeOf98
  v46 := Tryz.zeroValue98
  t50 := Tryz.underlying47
  a50 := Tryz.isAgg47
  z50 := Tryz.sizeOf47
  v50 := Tryz.zeroValue47
  t53 := Tryz.underlying104
  a53 := Tryz.isAgg104
  z53 := Tryz.sizeOf104
  v53 := Tryz.zeroValue104
  t55 := Tryz.underlying22
  a55 := Tryz.isAgg22
  z55 := Tryz.sizeOf22
  v55 := Tryz.zeroValue22
  t66 := Tryz.underlying114
  a66 := Tryz.isAgg114
  z66 := Tryz.sizeOf114
  v66 := Tryz.zeroValue114
  t70 := Tryz.underlying118
  a70 := Tryz.isAgg118
  z70 := Tryz.sizeOf118
  v70 := Tryz.zeroValue118
  t76 := Tryz.underlying125
  a76 := Tryz.isAgg125
  z76 := Tryz.sizeOf125
  v76 := Tryz.zeroValue125
  t77 := Tryz.underlying58
  a77 := Tryz.isAgg58
  z77 := Tryz.sizeOf58
  v77 := Tryz.zeroValue58 }
end Go.Proofs.YtgcgidoikpbfpaaGreat

/- slices.SortFunc over items: what the library says of it, in terms of items. -/
namespace Go.Proofs.YtgcgidoikpbfpaaGreat
open Go.RowKit Go.Sort

/-- An item with the place of its list, below block n of w. -/
structure IE (w : World) (n : Nat) where
  it : It
  A : Option Addr
  cap : Nat
  at_ : AtB w n it A cap
  le : it.count ≤ 1099511627775
instance instIE (w : World) (n : Nat) : Inhabited (IE w n) := ⟨⟨.mk 0 0 ⟨#[]⟩ [], none, 0, ⟨Nat.le_refl _, fun _ => rfl, AtL.nil _⟩, by rw [It.count_eq]; simp [It.l, countL]⟩⟩
section
variable {w w' : World} {n : Nat}
def ienc (x : IE w n) : List Value := ic x.it x.A x.cap
def icf (x y : IE w n) : Int := itC x.it y.it
theorem ienc_len (x : IE w n) : (ienc x).length = 4 := rfl
theorem swo_icf : SWO (Go.Proofs.ltOf (icf (w := w) (n := n))) where
  irrefl x := by unfold Go.Proofs.ltOf icf; rw [itC_cmp.refl]; rfl
  trans x y z h1 h2 := by
    unfold Go.Proofs.ltOf icf at *
    simp only [decide_eq_true_eq] at *
    exact itC_cmp.tr _ _ _ h1 h2
  ntrans x y z h1 h2 := by
    unfold Go.Proofs.ltOf icf at *
    simp only [decide_eq_false_iff_not, Int.not_lt] at *
    have a1 := itC_cmp.anti x.it y.it
    have a2 := itC_cmp.anti y.it z.it
    have a3 := itC_cmp.anti x.it z.it
    have := itC_cmp.le_trans (x := z.it) (y := y.it) (z := x.it) (by omega) (by omega)
    omega
/-- Cells of items, as a list of items with their places. -/
theorem lay_ie : ∀ {its : List It} {cs : List Value}, Lay w n its cs → (∀ t ∈ its, t.count ≤ 1099511627775) → ∃ l : List (IE w n), l.map IE.it = its ∧ l.flatMap ienc = cs
  | [], cs, h, _ => ⟨[], rfl, (show cs = [] from h).symm⟩
  | t :: r, cs, ⟨A, cap, c, e, h1, h2⟩, hc => by
    obtain ⟨l, e1, e2⟩ := lay_ie h2 fun t ht => hc t (List.mem_cons_of_mem _ ht)
    exact ⟨⟨t, A, cap, h1, hc t (List.mem_cons_self ..)⟩ :: l, by rw [List.map_cons, e1], by rw [List.flatMap_cons, e2, e]; rfl⟩
theorem flat_get : ∀ (l : List (IE w n)) (j : Nat), j < l.length * 4 → (l.flatMap ienc)[j]! = (ienc l.toArray[j / 4]!)[j % 4]!
  | [], j, h => by simp at h
  | x :: l, j, h => by
    rw [List.flatMap_cons]
    by_cases hj : j < 4
    · rw [Nat.div_eq_of_lt hj, Nat.mod_eq_of_lt hj, List.getElem!_eq_getElem?_getD, List.getElem?_append_left (by rw [ienc_len]; exact hj), List.getElem!_eq_getElem?_getD]
      rfl
    · have ih := flat_get l (j - 4) (by rw [List.length_cons] at h; omega)
      rw [List.getElem!_eq_getElem?_getD, List.getElem?_append_right (by rw [ienc_len]; omega), ienc_len, ← List.getElem!_eq_getElem?_getD, ih]
      have e1 : j / 4 = (j - 4) / 4 + 1 := by omega
      have e2 : (j - 4) % 4 = j % 4 := by omega
      rw [e1, e2]
      congr 2
      simp [getElem!_def]
theorem holds_ie {B g cap m : Nat} {l : List (IE w n)} {e : TypeId} (h : w.ownsRow B e 4 (.slice (some ⟨g, 0, none⟩) m cap) l.length (l.flatMap ienc)) : HoldsK ienc 4 w g 0 l.toArray := by
  intro j hj
  rw [size_flatK, List.size_toArray] at hj
  rw [Nat.zero_add, get_flatK _ _ _ _ (by rw [List.size_toArray]; exact hj), ← flat_get l j hj]
  obtain ⟨h1, h2⟩ := oc_cell h hj
  refine ⟨?_, h2⟩
  rw [h1, List.getElem!_eq_getElem?_getD]
  have hl : (l.flatMap ienc).length = l.length * 4 := by
    clear h hj h1 h2
    induction l with
    | nil => rfl
    | cons x l ih => rw [List.flatMap_cons, List.length_append, ih, ienc_len, List.length_cons]; omega
  rw [List.getElem?_eq_getElem (by omega)]
  rfl
/-- The other way about: a block that holds such items is a list in memory. -/
theorem list_ie {g : Nat} {d : Array (IE w n)} (hb : Below n w w') (hg : g < w'.heap.size) (hn : n ≤ g) (h : HoldsK ienc 4 w' g 0 d) : ∀ (k i : Nat), i + k = d.size → AtL w' (· < g + 1) ((d.toList.drop i).map IE.it) (some ⟨g, 4 * i, none⟩)
  | 0, i, hi => by
    rw [List.drop_eq_nil_of_le (by rw [Array.length_toList]; omega)]
    exact AtL.nil _
  | k + 1, i, hi => by
    have hlt : i < d.size := by omega
    have ih := list_ie hb hg hn h k (i + 1) (by omega)
    rw [List.drop_eq_getElem_cons (by rw [Array.length_toList]; exact hlt), List.map_cons]
    have hx : d[i]! = d.toList[i]'(by rw [Array.length_toList]; exact hlt) := by rw [getElem!_pos d i hlt]; rfl
    have hc := fun c (hc : c < 4) => (h.cell hlt hc).1
    rw [hx] at hc
    obtain ⟨⟨t, A, cap, ha, hcount⟩, e⟩ : ∃ x, d.toList[i]'(by rw [Array.length_toList]; exact hlt) = x := ⟨_, rfl⟩
    rw [e] at hc ⊢
    have ha' := ha.keep hb
    refine AtL.mk (by omega) hg (At1.mk A cap ?_ ?_ ?_ ?_ ha'.le ha'.nil (ha'.at_.more fun b hb => by omega)) ih
    · have := hc 0 (by omega); rw [Nat.zero_add, Nat.add_zero, Nat.mul_comm] at this; exact this
    · have := hc 1 (by omega); rw [Nat.zero_add, Nat.mul_comm] at this; exact this
    · have := hc 2 (by omega); rw [Nat.zero_add, Nat.mul_comm] at this; exact this
    · have := hc 3 (by omega); rw [Nat.zero_add, Nat.mul_comm] at this; exact this
theorem below_sortK {α : Type} [Inhabited α] (enc : α → List Value) (k : Nat) (w : World) (g off m : Nat) (dk : Array α) (os : Array Obj) (hg : g < w.heap.size) : Bel g w (sortWorldK enc k w g off m dk os) := by
  refine ⟨⟨rfl, rfl, rfl, ?_, fun b hb => ?_⟩, Nat.le_add_right _ _⟩
  · simp [sortWorldK, putRowK, putRow, mapBlock, Sort.ahead, Sort.grow]
  · simp only [sortWorldK, putRowK, putRow, mapBlock, Sort.ahead, Sort.grow]
    rw [Array.getElem?_append_left (by rw [Array.size_modify]; omega), Array.getElem?_modify, if_neg (by omega)]
theorem cmp_ie {g size : Nat} (hg : n ≤ g) (hgw : g < w.heap.size) : CmpLays Tryz.prog 50 #[] ienc 4 (icf (w := w) (n := n)) g 0 size w := by
  intro m os dk _ x y
  have hb := below_sortK ienc 4 w g 0 m dk os hgw
  refine (item_compareB x.it y.it x.A y.A x.cap y.cap n _ x.le (Nat.le_trans hg (Nat.le_trans (Nat.le_of_lt hgw) hb.size)) (x.at_.keep (hb.toBelow.mono hg)) (y.at_.keep (hb.toBelow.mono hg))).mono fun e w' h => ⟨h.1, h.2.grow⟩
theorem run_sort {its : List It} {g cap B : Nat} (hown : OwnI w n B (.slice (some ⟨g, 0, none⟩) its.length cap) its) (hg : n ≤ g) (hgw : g < w.heap.size) (hc : ∀ t ∈ its, t.count ≤ 1099511627775) (hlen : its.length < 4611686018427387904) (hcap : its.length ≤ cap) :
    Calls Tryz.prog 49 #[.slice (some ⟨g, 0, none⟩) its.length cap, .func (.func 50) #[] #[]] w fun e w' =>
      e = .returned (.tuple #[]) ∧ ∃ d : List It, d.Perm its ∧ (∀ i j (hi : i < j) (hj : j < d.length), 0 ≤ itC (d[j]) (d[i])) ∧ RL w' (g + 1) d (some ⟨g, 0, none⟩) cap ∧ Bel g w w' := by
  obtain ⟨cs, h1, h2⟩ := hown
  obtain ⟨l, e1, e2⟩ := lay_ie h2 hc
  subst e2
  have hl : its.length = l.toArray.size := by rw [← e1, List.length_map, List.size_toArray]
  have h1' : w.ownsRow B 25 4 (.slice (some ⟨g, 0, none⟩) its.length cap) l.length (l.flatMap ienc) := by rw [hl, List.size_toArray] at h1 ⊢; exact h1
  have hH := holds_ie h1'
  have eg : ∀ args w, (callFunc 50 args).run Tryz.prog w = .ok (.enter 50 args) w := enters_of Tryz.func50 (by kernel_rfl) rfl
  have hcon := Go.Proofs.AnyQ.slices_SortFunc Tryz.sortItems 4 Tryz.isAgg25 Tryz.sizeOf25 ienc ienc_len (fun x => ic_one _ _ _) icf swo_icf 50 #[] g 0 cap l.toArray w eg (cmp_ie hg hgw) hH hgw (by rw [← hl]; exact hlen)
  rw [hl]
  refine Calls.mono hcon ?_
  rintro e w' ⟨rfl, d', m, os, ⟨hs, _, hp⟩, hsrt, rfl⟩
  have hb := below_sortK ienc 4 w g 0 m d' os hgw
  have hd := holdsK_sortWorldK ienc 4 w g 0 m l.toArray d' os hgw hH hs
  have hat := list_ie (hb.toBelow.mono hg) (Nat.lt_of_lt_of_le hgw hb.size) hg hd d'.size 0 (by omega)
  have hdl : (d'.toList.map IE.it).length = its.length := by rw [List.length_map, Array.length_toList, hs, ← hl]
  refine ⟨rfl, d'.toList.map IE.it, ?_, ?_, ⟨by rw [hdl]; exact hcap, fun h => (by cases h), by simpa using hat⟩, hb⟩
  · rw [← e1]
    refine List.Perm.map _ ?_
    have e3 : d'.extract 0 l.toArray.size = d' := by rw [← hs]; exact Array.extract_size
    have e4 : l.toArray.extract 0 l.toArray.size = l.toArray := Array.extract_size
    rw [e3, e4] at hp
    simpa using hp
  · intro i j hi hj
    rw [List.length_map, Array.length_toList] at hj
    have := hsrt i j (Nat.zero_le _) hi (by rw [← hs]; exact hj)
    rw [getElem!_pos d' j hj, getElem!_pos d' i (by omega)] at this
    have this := of_decide_eq_false this
    simp only [icf] at this
    simp only [List.getElem_map, Array.getElem_toList]
    omega
end
end Go.Proofs.YtgcgidoikpbfpaaGreat
