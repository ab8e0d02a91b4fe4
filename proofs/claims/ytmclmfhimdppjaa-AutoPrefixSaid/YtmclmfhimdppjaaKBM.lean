/- Layer 14's law: the document's examples. -/
import Derived.Test.YtmclmfhimdppjaaKBL
import Derived.Test.YtmclmfhimdppjaaKBE
import Derived.OpenShut
import Derived.Test.YtmclmfhimdppjaaKAG
import Derived.Deep.RegionLaw
import Derived.Test.YtmclmfhimdppjaaKAA
import Derived.Carry
namespace Go.Proofs.Ytmclmfhimdppjaa
open Go.RowKit

theorem wv_a : wv 4 9 99 [130, 1] = (9, 2) := by
  simp [wv, svrd, fstep, bstep, aq0, begins, hq0, hnotes, hmid, hbegin, hbeg, herr, hdone, hstep, HQ.more, hshort, leastW, enter, AQ.isEnded, AQ.isFin, settle, Fr.feeds, Fr.full, Fr.waits, Fr.less]
theorem wv_b : wv 4 9 99 [24, 23] = (5, 1) := by
  simp [wv, svrd, fstep, bstep, aq0, begins, hq0, hnotes, hmid, hbegin, hbeg, herr, hdone, hstep, HQ.more, hshort, leastW, hwid, enter, AQ.isEnded, settle, hfollow]
theorem wv_c : wv 4 9 99 [1] = (0, 0) := by
  simp [wv, svrd, fstep, bstep, aq0, begins, hq0, hnotes, hmid, hbegin, hbeg, herr, hdone, hstep, HQ.more, hshort, leastW, enter, AQ.isEnded, AQ.isFin, settle]
theorem whole_a (w : World) (A : Option Addr) (hr : Rd w w.heap.size .u8 A [130, 1]) : Calls Try.prog 16 #[.slice A 2 2, .agg #[.int .i64 4, .int .i64 9, .int .i64 99]] w fun e w' => e = .returned (.agg #[.int .i64 9, .int .i64 2]) ∧ Below w.heap.size w w' := by
  have := auto_Whole w A 2 [130, 1] 4 9 99 hr (by unfold ByteL; decide) (by decide) (by decide) (by decide) (by decide) (by decide) (by decide) (by decide)
  rw [wv_a] at this
  exact this
theorem whole_b (w : World) (A : Option Addr) (hr : Rd w w.heap.size .u8 A [24, 23]) : Calls Try.prog 16 #[.slice A 2 2, .agg #[.int .i64 4, .int .i64 9, .int .i64 99]] w fun e w' => e = .returned (.agg #[.int .i64 5, .int .i64 1]) ∧ Below w.heap.size w w' := by
  have := auto_Whole w A 2 [24, 23] 4 9 99 hr (by unfold ByteL; decide) (by decide) (by decide) (by decide) (by decide) (by decide) (by decide) (by decide)
  rw [wv_b] at this
  exact this
theorem whole_c (w : World) (A : Option Addr) (hr : Rd w w.heap.size .u8 A [1]) : Calls Try.prog 16 #[.slice A 1 1, .agg #[.int .i64 4, .int .i64 9, .int .i64 99]] w fun e w' => e = .returned (.agg #[.int .i64 0, .int .i64 0]) ∧ Below w.heap.size w w' := by
  have := auto_Whole w A 1 [1] 4 9 99 hr (by unfold ByteL; decide) (by decide) (by decide) (by decide) (by decide) (by decide) (by decide) (by decide)
  rw [wv_c] at this
  exact this
theorem rd_lit (v : World) (g : Nat) (hg : g = v.heap.size) (l : List Int) : Rd (v.alloc (.cells (nums .u8 l) 5)) (v.alloc (.cells (nums .u8 l) 5)).heap.size .u8 (some ⟨g, 0, none⟩) l := (Blk.freshAt _ _ _ _ hg : Blk _ g 5 (nums .u8 l)).rd
set_option maxRecDepth 100000 in
theorem auto_awake (w : World) : Calls Try.prog 5 #[] w fun e w' => e = .returned (.bool true) ∧ Below w.heap.size w w' := by
  obtain ⟨w1, hw1, b1, S1⟩ := iblk1 w 24 #[.int .i64 4, .int .i64 9, .int .i64 99]
  have hsz : w1.heap.size = w.heap.size + 1 := by rw [← hw1]; simp
  have HW : Hid (∀ v, Below w1.heap.size w1 v → v.cell? ⟨w.heap.size, 0, none⟩ = some (.int .i64 4) ∧ v.cell? ⟨w.heap.size, 1, none⟩ = some (.int .i64 9) ∧ v.cell? ⟨w.heap.size, 2, none⟩ = some (.int .i64 99)) := fun v hb => lblk (b1.on hb)
  have H1 : Hid (Calls Try.prog 16 #[.slice (some ⟨w.heap.size + 1, 0, none⟩) 2 2, .agg #[.int .i64 4, .int .i64 9, .int .i64 99]] (w1.alloc (.cells #[.int .u8 130, .int .u8 1] 5)) fun e w' => e = .returned (.agg #[.int .i64 9, .int .i64 2]) ∧ Below w1.heap.size w1 w') :=
    (whole_a _ _ (rd_lit w1 (w.heap.size + 1) hsz.symm [130, 1])).mono fun _ _ h => ⟨h.1, (below_alloc w1 _).trans (h.2.mono (by simp))⟩
  have H2 : Hid (∀ v, Below w1.heap.size w1 v → Calls Try.prog 16 #[.slice (some ⟨v.heap.size, 0, none⟩) 2 2, .agg #[.int .i64 4, .int .i64 9, .int .i64 99]] (v.alloc (.cells #[.int .u8 24, .int .u8 23] 5)) fun e w' => e = .returned (.agg #[.int .i64 5, .int .i64 1]) ∧ Below w1.heap.size w1 w') := fun v hb =>
    (whole_b _ _ (rd_lit v v.heap.size rfl [24, 23])).mono fun _ _ h => ⟨h.1, (hb.trans ((below_alloc v _).mono hb.size)).trans (h.2.mono (by have := hb.size; simp; omega))⟩
  have H3 : Hid (∀ v, Below w1.heap.size w1 v → Calls Try.prog 16 #[.slice (some ⟨v.heap.size, 0, none⟩) 1 1, .agg #[.int .i64 4, .int .i64 9, .int .i64 99]] (v.alloc (.cells #[.int .u8 1] 5)) fun e w' => e = .returned (.agg #[.int .i64 0, .int .i64 0]) ∧ Below w1.heap.size w1 w') := fun v hb =>
    (whole_c _ _ (rd_lit v v.heap.size rfl [1])).mono fun _ _ h => ⟨h.1, (hb.trans ((below_alloc v _).mono hb.size)).trans (h.2.mono (by have := hb.size; simp; omega))⟩
  obtain ⟨p0, p1, p2⟩ := lblk b1
  have HS := Lib.hid S1
  clear b1 S1
  go_enter Try.func5, Try.ntmps5
  go_wp2_with fail
  refine H1.out.mono ?_
  rintro e w2 ⟨rfl, b2⟩
  obtain ⟨q0, q1, q2⟩ := HW.out (w2.alloc (.cells #[.int .u8 24, .int .u8 23] 5)) (b2.trans ((below_alloc w2 _).mono b2.size))
  have HC2 := Lib.hid (H2.out w2 b2)
  clear b2 H1 H2 p0 p1 p2
  go_wp2_with fail
  refine HC2.out.mono ?_
  rintro e w3 ⟨rfl, b3⟩
  obtain ⟨r0, r1, r2⟩ := HW.out (w3.alloc (.cells #[.int .u8 1] 5)) (b3.trans ((below_alloc w3 _).mono b3.size))
  have HC3 := Lib.hid (H3.out w3 b3)
  clear b3 HC2 H3 q0 q1 q2
  go_wp2_with fail
  refine HC3.out.mono ?_
  rintro e w4 ⟨rfl, b4⟩
  have HF := Lib.hid (HS.out.trans (b4.mono HS.out.size))
  clear b4 HC3
  go_wp2_with fail
  go_ret
  exact ⟨rfl, HF.out⟩
end Go.Proofs.Ytmclmfhimdppjaa

/- Package auto: Whole by limits that are not right; a nil automaton. -/
namespace Go.Proofs.Ytmclmfhimdppjaa
open Go.RowKit

set_option maxRecDepth 4000 in
theorem auto_Whole_bad (w : World) (A : Option Addr) (cap n : Nat) (d k s : Int) (h : rightL d k s = false) :
    Calls Try.prog 16 #[.slice A n cap, vL d k s] w fun e w' => e = .returned (.agg (vcells (15, 0))) ∧ Below w.heap.size w w' := by
  obtain ⟨w1, hw1, b1, S1⟩ := iblk1 w 24 #[.int .i64 d, .int .i64 k, .int .i64 s]
  have hsz1 : w1.heap.size = w.heap.size + 1 := by rw [← hw1]; simp
  obtain ⟨w2, hw2, b2, S2⟩ := iblk1 w1 51 #[.int .i64 0, .int .i64 0]
  obtain ⟨p0, p1, p2⟩ := lblk (b1.on S2)
  have S12 : Below w.heap.size w w2 := S1.trans (S2.mono S1.size)
  have HN := Lib.hid (auto_New_bad w2 d k s h)
  have HZ := vd_zero
  have HX : Hid (∀ w3, Below w2.heap.size w2 w3 → (Instr.storeAt 51 (.pointer (some ⟨w1.heap.size, 0, none⟩)) (.agg #[.int .i64 15, .int .i64 0])).run Try.prog w3 = .ok () (w3.setRow w1.heap.size #[.int .i64 15, .int .i64 0]) ∧ Blk (w3.setRow w1.heap.size #[.int .i64 15, .int .i64 0]) w1.heap.size 51 #[.int .i64 15, .int .i64 0] ∧ Below w.heap.size w (w3.setRow w1.heap.size #[.int .i64 15, .int .i64 0])) := fun w3 hb =>
    ⟨run_store_all (b2.on hb) vd_info rfl (vd_one _ _), (b2.on hb).setRow _, below_row (S12.trans (hb.mono S12.size)) (by omega) _⟩
  unfold vL at HN ⊢
  unfold vcells at HZ ⊢
  dsimp only at HZ ⊢
  clear S1 S2 S12 b1 b2 h hsz1
  go_enter Try.func16, Try.ntmps16
  go_wp2_with fail
  refine HN.out.mono ?_
  rintro e w3 ⟨rfl, hb⟩
  obtain ⟨r1, r2, r3⟩ := HX.out w3 hb
  have H1 := Lib.hid r1
  have H2 := Lib.hid r2
  have H3 := Lib.hid r3
  clear r1 r2 r3 hb HX HN
  go_wp2_with ((with_reducible refine is_store 51 rfl ?_); (with_reducible refine wpList_store_run rfl rfl H1.out ?_ ?_ ?_); (· rfl); (· rfl))
  refine bodyPost_ret (results_blk rfl _ rfl H2.out Try.underlying51 rfl vd_info) rfl ?_
  exact ⟨rfl, H3.out⟩
/-- The verdict, whatever the limits. -/
noncomputable def wva (d k s : Int) (L : List Int) : Int × Int := if rightL d k s = true then wv d.toNat k.toNat s L else (15, 0)
theorem auto_WholeA (w : World) (A : Option Addr) (cap : Nat) (L : List Int) (d k s : Int) (hr : Rd w w.heap.size .u8 A L) (hb : ByteL L) (hlen : L.length ≤ 1000000000) :
    Calls Try.prog 16 #[.slice A L.length cap, .agg #[.int .i64 d, .int .i64 k, .int .i64 s]] w fun e w' => e = .returned (.agg #[.int .i64 (wva d k s L).1, .int .i64 (wva d k s L).2]) ∧ Below w.heap.size w w' := by
  unfold wva
  cases h : rightL d k s with
  | true =>
    rw [if_pos rfl]
    obtain ⟨h1, h2, h3, h4, h5, h6⟩ := rightL_true.1 h
    have := auto_Whole w A cap L d.toNat k.toNat s hr hb hlen (by omega) (by omega) (by omega) (by omega) h5 h6
    rw [Int.toNat_of_nonneg (by omega), Int.toNat_of_nonneg (by omega)] at this
    exact this
  | false =>
    rw [if_neg (by decide)]
    exact auto_Whole_bad w A cap L.length d k s h
theorem auto_Step_nil (w : World) (c : Int) (V : Value) : Calls Try.prog 11 #[.pointer none, .int .u8 c, V] w fun e w' => e = .returned (.int .i64 10) ∧ w' = w := by
  go_enter Try.func11, Try.ntmps11
  go_wp2_with fail
  go_ret
  exact ⟨rfl, rfl⟩
theorem auto_Done_nil (w : World) : Calls Try.prog 14 #[.pointer none] w fun e w' => e = .returned (.bool false) ∧ w' = w := by
  go_enter Try.func14, Try.ntmps14
  go_wp2_with fail
  go_ret
  exact ⟨rfl, rfl⟩
theorem auto_Len_nil (w : World) : Calls Try.prog 13 #[.pointer none] w fun e w' => e = .returned (.int .i64 0) ∧ w' = w := by
  go_enter Try.func13, Try.ntmps13
  go_wp2_with fail
  go_ret
  exact ⟨rfl, rfl⟩
theorem auto_Cap_nil (w : World) : Calls Try.prog 10 #[.pointer none] w fun e w' => e = .returned (.int .i64 0) ∧ w' = w := by
  go_enter Try.func10, Try.ntmps10
  go_wp2_with fail
  go_ret
  exact ⟨rfl, rfl⟩
theorem auto_Close_nil (w : World) : Calls Try.prog 15 #[.pointer none] w fun e w' => e = .returned (.agg #[.int .i64 10, .int .i64 0]) ∧ Below w.heap.size w w' := by
  have HZ := vd_zero
  have b : Blk (w.alloc (.cells #[.int .i64 0, .int .i64 0] 51)) w.heap.size 51 #[.int .i64 0, .int .i64 0] := Blk.fresh _ _ _
  have S := below_alloc w (.cells #[.int .i64 0, .int .i64 0] 51)
  have b2 := Lib.hid (b.setRow #[.int .i64 10, .int .i64 0])
  have S2 := Lib.hid (below_row S (Nat.le_refl _) #[.int .i64 10, .int .i64 0])
  have HSt := Lib.hid (run_store_all (P := Try.prog) (ty := 51) (c' := #[.int .i64 10, .int .i64 0]) b vd_info rfl (vd_one _ _))
  obtain ⟨w1, hw1⟩ : ∃ w1, w.alloc (.cells #[.int .i64 0, .int .i64 0] 51) = w1 := ⟨_, rfl⟩
  rw [hw1] at b2 S2 HSt
  unfold vcells at HZ
  dsimp only at HZ
  clear b S
  go_enter Try.func15, Try.ntmps15
  go_wp2_with ((with_reducible refine is_store 51 rfl ?_); (with_reducible refine wpList_store_run rfl rfl HSt.out ?_ ?_ ?_); (· rfl); (· rfl))
  refine bodyPost_ret (results_blk rfl _ rfl b2.out Try.underlying51 rfl vd_info) rfl ?_
  exact ⟨rfl, S2.out⟩
end Go.Proofs.Ytmclmfhimdppjaa

/- Limits among the arguments. -/
namespace Go.Proofs.Ytmclmfhimdppjaa
open Go.RowKit Go.Sort Go.ChangeShapes Go.WideShapes Go.ChangeAt

section
variable {H : Type} {enc : TypeId × Value → H} {W : World}
set_option maxRecDepth 100000 in
/-- Limits among the arguments. -/
theorem open_limits {b0 : Nat} {v : Value} {d : DataW H} {ps : List MemPlace} (hval : Value.okWide Try.prog W .any b0 24 v) (hd : DataW.Trod enc Try.prog W 0 (fun _ => true) true 24 v d ps) :
    ∃ a b c, v = vL a b c := by
  obtain ⟨cs, rfl, _⟩ := okWide_struct Try.underlying24 hval
  obtain ⟨fuel, h⟩ := hd
  obtain ⟨xs, m, rfl, _, hl, hlen, hf⟩ := DataW.trod_struct Try.underlying24 h
  have hC : Try.prog.cellsOf 24 = 3 := by kernel_rfl
  rw [hC] at hl
  obtain ⟨c0, c1, c2, hc⟩ : ∃ c0 c1 c2, (Value.agg cs).cells.toList = [c0, c1, c2] := by
    match (Value.agg cs).cells.toList, hl with
    | [c0, c1, c2], _ => exact ⟨c0, c1, c2, rfl⟩
  obtain ⟨y0, y1, y2, rfl⟩ : ∃ y0 y1 y2, xs = [y0, y1, y2] := by
    match xs, hlen with
    | [y0, y1, y2], _ => exact ⟨y0, y1, y2, rfl⟩
  have g0 := hf 0 _ rfl
  have g1 := hf 1 _ rfl
  have g2 := hf 2 _ rfl
  have k0 : Try.prog.cellsOf 3 = 1 := by kernel_rfl
  rw [hc] at g0 g1 g2
  simp [k0] at g0 g1 g2
  obtain ⟨a, e0, _, _⟩ := DataW.trod_int Try.underlying3 g0
  obtain ⟨b, e1, _, _⟩ := DataW.trod_int Try.underlying3 g1
  obtain ⟨c, e2, _, _⟩ := DataW.trod_int Try.underlying3 g2
  injection e0 with e0
  injection e1 with e1
  injection e2 with e2
  subst e0 e1 e2
  refine ⟨a, b, c, ?_⟩
  unfold vL
  congr 1
  apply Array.ext'
  simpa [Value.cells] using hc
end
end Go.Proofs.Ytmclmfhimdppjaa

/- Append of a slice that reads as cells to one of the call's own, as an arm of a region that draws. -/
namespace Go.Proofs.Ytmclmfhimdppjaa
open Go.RowKit

/-- A slice reads as these cells. -/
def RdC (w : World) (y : Value) (xs : List Value) : Prop := ∃ A cap, y = .slice A xs.length cap ∧ (A = none → cap = 0) ∧ (0 < xs.length → ∃ b o, A = some ⟨b, o, none⟩ ∧ ∀ j, j < xs.length → w.cell? ⟨b, o + j, none⟩ = xs[j]?)
section
variable {P : Program}
theorem run_append_row {w : World} {B : Nat} {t ty e : TypeId} {bytes : Nat} {v y z : Value} {n : Nat} {cs xs : List Value} (ht : P.underlying t = some (.slice e))
    (hi : (P.info? e).map (fun i => (i.zero, i.size, i.bytes)) = some (some z, 1, bytes)) (hz : z.cells.size = 1) (hby : bytes ≤ 64)
    (hown : w.ownsRow B e 1 v n cs) (hr : RdC w y xs) (h1 : ∀ u ∈ xs, u.oneCell' = true) (hb : n + xs.length ≤ 1099511627776) (hB : B ≤ w.heap.size) :
    ∃ v' w', (Builtin.append_ #[t, t] ty #[v, y]).run P w = .ok v' w' ∧ w'.ownsRow B e 1 v' (n + xs.length) (cs ++ xs) ∧ Below B w w' ∧ w.grownBy w' v.ownBlock := by
  obtain ⟨A, cap, rfl, hn, hc⟩ := hr
  cases A with
  | none =>
    obtain rfl := hn rfl
    have hx : xs = [] := by
      rcases xs with _ | ⟨x, r⟩
      · rfl
      · obtain ⟨b, o, h, _⟩ := hc (by simp)
        cases h
    subst hx
    obtain ⟨i, hi0, hz0, hz1, hz2⟩ := info_parts hi
    exact ⟨v, w, run_append_owned_none (P := P) w B t ty e i 1 ht hi0 v _ _ hown, by simpa using hown, Below.refl _ _, World.grownBy.refl _ _⟩
  | some ad =>
    obtain ⟨v', w', r1, r2, r3, r4, _⟩ := oc_append (P := P) (t := t) (ty := ty) (e := e) (s := 1) (bytes := bytes) (m := xs.length) (c := cap) (news := xs) (a := ad) ht hi hz (by decide) hby hown (by omega)
      (fun j u hj => by
        have hj' : j < xs.length := by
          rcases Nat.lt_or_ge j xs.length with h | h
          · exact h
          · rw [List.getElem?_eq_none h] at hj; cases hj
        obtain ⟨b, o, hA, hcell⟩ := hc (by omega)
        injection hA with hA
        subst hA
        rw [Addr.add_mid, hcell j hj']
        exact hj) h1 hb hB
    exact ⟨v', w', r1, r2, r3, r4⟩
/-- For an arm of a region that draws: append of such a slice to one of the call's own. -/
theorem step_append_row {ops : Array Oper} {o : Oper} {a : Act} {w : World} {K : Act → World → Prop} {Q : Exit → Act → World → Prop} {E : Prop} (hgd : o.guard = none) {s x : Operand} {t e : TypeId}
    (ho : o.op = .call { callee := .builtin .append, args := #[s, x], argTypes := #[t, t] }) {B bytes : Nat} {v y z : Value} {n : Nat} {cs xs : List Value} (hs : a.eval s = v) (hx : a.eval x = y)
    (ht : P.underlying t = some (.slice e)) (hi : (P.info? e).map (fun i => (i.zero, i.size, i.bytes)) = some (some z, 1, bytes)) (hz : z.cells.size = 1) (hby : bytes ≤ 64)
    (hown : w.ownsRow B e 1 v n cs) (hr : RdC w y xs) (h1 : ∀ u ∈ xs, u.oneCell' = true) (hb : n + xs.length ≤ 1099511627776) (hB : B ≤ w.heap.size)
    (h : ∀ v' w', w'.ownsRow B e 1 v' (n + xs.length) (cs ++ xs) → Below B w w' → w.grownBy w' v.ownBlock → K (a.put o.dst v') w') : if Region.wanted o (yielded ops a.tmps) = true then Oper.wp P o a w K Q else E := by
  obtain ⟨v', w', r1, r2, r3, r4⟩ := run_append_row (ty := o.type) ht hi hz hby hown hr h1 hb hB
  exact step_append_run hgd ho r1 hs hx (h v' w' r2 r3 r4)
end

theorem RdC.on {w w' : World} {y : Value} {xs : List Value} (h : RdC w y xs) (hb : Below w.heap.size w w') : RdC w' y xs := by
  obtain ⟨A, cap, h1, h2, h3⟩ := h
  refine ⟨A, cap, h1, h2, fun hp => ?_⟩
  obtain ⟨b, o, hA, hc⟩ := h3 hp
  refine ⟨b, o, hA, fun j hj => ?_⟩
  have h4 := hc j hj
  rw [List.getElem?_eq_getElem hj] at h4 ⊢
  rw [hb.cell (p := ⟨b, o + j, none⟩) (block_lt_of_cell h4)]
  exact h4
/-- A block of another type is left alone. -/
theorem blk_grown {w w' : World} {B g s n : Nat} {e t : TypeId} {v : Value} {cs : List Value} {zs : Array Value} (hb : Blk w g t zs) (h : w.ownsRow B e s v n cs) (ht : t ≠ e) (hg : w.grownBy w' v.ownBlock) : Blk w' g t zs := by
  refine (hg.block g hb.lt ?_).trans hb
  intro he
  rcases h.2 with ⟨rfl, _⟩ | ⟨g', cap, cur, rfl, _, hh, _⟩
  · cases he
  · have e' : g = g' := by simpa [Value.ownBlock] using he
    subst e'
    have := hb.symm.trans hh
    injection this with this
    injection this with _ h2 _
    exact ht h2
theorem Rd.rdc {w : World} {k : IntKind} {A : Option Addr} {zs : List Int} {cap : Nat} (h : Rd w w.heap.size k A zs) (hn : A = none → cap = 0) : RdC w (.slice A zs.length cap) (zs.map (Value.int k)) := by
  refine ⟨A, cap, by rw [List.length_map], hn, fun hp => ?_⟩
  rw [List.length_map] at hp
  obtain ⟨b, o, hA, _, hc⟩ := h hp
  refine ⟨b, o, hA, fun j hj => ?_⟩
  rw [List.length_map] at hj
  rw [hc j hj, List.getElem?_map, List.getElem?_eq_getElem hj]
  simp [List.getD_eq_getElem?_getD, hj]
theorem rd_owned {w : World} {B n : Nat} {e : TypeId} {k : IntKind} {v : Value} {zs : List Int} (h : w.ownsRow B e 1 v n (zs.map (Value.int k))) (hn : n = zs.length) : ∃ A cap, v = .slice A zs.length cap ∧ Rd w w.heap.size k A zs := by
  subst hn
  have ho : Own w B k e v zs := h
  obtain ⟨A, cap, h1, _, _, _, _, h2⟩ := ho.form
  exact ⟨A, cap, h1, h2⟩
end Go.Proofs.Ytmclmfhimdppjaa

/- The frame of every law's proof: what is left is that the call returns true and turns nothing that was there. -/
namespace Go.Proofs.Ytmclmfhimdppjaa
open Go.ChangeShapes Go.WideShapes Go.ChangeAt Go.RowKit

section
variable {H : Type} {enc : TypeId × Value → H} {P : Program} {W W' : World}
/-- Arguments read as they did where below the heap's old size nothing has turned. -/
theorem args_stay (hl : laidOutB P = true) (hb : Below W.heap.size W W') : ∀ (ts : List TypeId) (vs : List Value) (ds : List (DataW H)) (ps : List MemPlace),
    (ts.all fun t => P.readableRec t && decide (t < P.types.size)) = true → (∀ p ∈ ps, p.block < W.heap.size) →
    DataW.TrodAll enc P W 0 (fun _ => true) true ts vs ds ps → DataW.TrodAll enc P W' 0 (fun b => decide (b < W.heap.size)) true ts vs ds ps
  | [], vs, ds, ps, _, _, h => by
    obtain ⟨rfl, rfl, rfl⟩ := trodAll_nil h
    exact trodAll_mk0
  | t :: ts, vs, ds, ps, ht, hp, h => by
    obtain ⟨v, vs', d, ds', p, q, rfl, rfl, rfl, hd, hr⟩ := trodAll_cons h
    simp only [List.all_cons, Bool.and_eq_true, decide_eq_true_eq] at ht
    have ha := Below.trod hl ht.1.1 ht.1.2 hd hb (fun x hx => hp x (List.mem_append_left _ hx))
    exact trodAll_cons_mk ha (args_stay hl hb ts vs' ds' q (by simpa using ht.2) (fun x hx => hp x (List.mem_append_right _ hx)) hr)

/-- What a law's row asks behind the call. -/
theorem law_post {f : Func} {s : ChangeSpec} {args : Array Value} {ds gs : List (DataW H)} {before : List MemPlace} {tb : TypeId}
    (hl : laidOutB P = true) (ht : (f.params.toList.all fun t => P.readableRec t && decide (t < P.types.size)) = true) (hv : s.vars = [])
    (hr : f.resultTypes = #[tb]) (hu : P.underlying tb = some .bool)
    (hres : (s.fn H (ds ++ gs)).results = [.lit (.bool true)]) (hargs : (s.fn H (ds ++ gs)).args = ds) (hvars : (s.fn H (ds ++ gs)).vars = [])
    (hW : DataW.Whole enc P f.params.toList s.vars false W args.toList ds gs before) (hb : Below W.heap.size W W') :
    s.post enc P f false true false false W args (.bool true) W' := by
  have hlt := hW.lt
  have hW' := hW
  obtain ⟨p, q, hA, hV, hpq, _, _⟩ := hW
  rw [hv] at hV
  obtain ⟨rfl, rfl⟩ := trodVars_none hV
  rw [List.append_nil] at hpq
  subst hpq
  refine ⟨ds, [], before, [], before, [], hW', ?_, ?_, ?_, World.keptBut_mono (fun x hx => ⟨hx, Or.inr (Or.inl hx)⟩) (hb.frame (· ∈ before)), fun h => by cases h⟩
  · rw [hres, hr]
    exact trodAll_mk1 (shut_bool hu true)
  · rw [hargs]
    exact args_stay hl hb _ _ _ _ ht hlt hA
  · rw [hv, hvars]
    rfl

/-- A slice of integers that came in. -/
theorem open_nums {t e : TypeId} {k : IntKind} {b0 : Nat} {v : Value} {d : DataW H} {ps : List MemPlace} (ht : P.underlying t = some (.slice e)) (he : P.underlying e = some (.int k)) (hc : P.cellsOf e = 1)
    (hval : Value.okWide P W .any b0 t v) (hd : DataW.Trod enc P W 0 (fun _ => true) true t v d ps) (hlt : ∀ x ∈ ps, x.block < W.heap.size) :
    ∃ (A : Option Addr) (cap : Nat) (zs : List Int), v = .slice A zs.length cap ∧ zs.length ≤ 9223372036854775807 ∧ Rd W W.heap.size k A zs ∧ ∀ n ∈ zs, (Lit.int k n).wf = true := by
  obtain ⟨a0, len, cap, rfl⟩ := okWide_slice ht hval
  obtain ⟨fuel, hf⟩ := hd
  rcases open_ints ht he hc hf with ⟨hcs, hx⟩ | ⟨a, len', cap', zs, hcs, _, hl, hm, hz, hx, hcell, hwz⟩
  · simp [Value.cells] at hcs
    obtain ⟨rfl, rfl, rfl⟩ := hcs
    exact ⟨none, 0, [], rfl, by decide, fun h => absurd h (by simp), by simp⟩
  · simp [Value.cells] at hcs
    obtain ⟨rfl, rfl, rfl⟩ := hcs
    simp only [Prod.mk.injEq] at hx
    obtain ⟨rfl, rfl⟩ := hx
    simp only [if_true] at hz
    unfold maxLen at hm
    have hlen : (zs.take len).length = len := by rw [List.length_take]; omega
    refine ⟨some a, cap, zs.take len, by rw [hlen], by rw [hlen]; omega, fun hpos => ?_, fun n hn => hwz n (List.mem_of_mem_take hn)⟩
    rw [hlen] at hpos
    have h0 := hcell 0 (by omega)
    obtain ⟨b, off, spot⟩ := a
    have hspot : spot = none := by simpa [Addr.add] using World.cell?_spot h0
    subst hspot
    refine ⟨b, off, rfl, ?_, fun i hi => ?_⟩
    · have := hlt (.cell b off) (MemPlace.mem_row.2 ⟨0, by omega, by simp⟩)
      exact this
    · rw [hlen] at hi
      rw [← add_plain, hcell i (by omega)]
      congr 2
      simp [List.getD_eq_getElem?_getD, hi]
/-- A slice of integers that came in; its capacity too. -/
theorem open_nums' {t e : TypeId} {k : IntKind} {b0 : Nat} {v : Value} {d : DataW H} {ps : List MemPlace} (ht : P.underlying t = some (.slice e)) (he : P.underlying e = some (.int k)) (hc : P.cellsOf e = 1)
    (hval : Value.okWide P W .any b0 t v) (hd : DataW.Trod enc P W 0 (fun _ => true) true t v d ps) (hlt : ∀ x ∈ ps, x.block < W.heap.size) :
    ∃ (A : Option Addr) (cap : Nat) (zs : List Int), v = .slice A zs.length cap ∧ zs.length ≤ 9223372036854775807 ∧ zs.length ≤ cap ∧ (A = none → cap = 0) ∧ Rd W W.heap.size k A zs ∧ ∀ n ∈ zs, (Lit.int k n).wf = true := by
  obtain ⟨a0, len, cap, rfl⟩ := okWide_slice ht hval
  obtain ⟨fuel, hf⟩ := hd
  rcases open_ints ht he hc hf with ⟨hcs, hx⟩ | ⟨a, len', cap', zs, hcs, _, hl, hm, hz, hx, hcell, hwz⟩
  · simp [Value.cells] at hcs
    obtain ⟨rfl, rfl, rfl⟩ := hcs
    exact ⟨none, 0, [], rfl, by decide, by decide, fun _ => rfl, fun h => absurd h (by simp), by simp⟩
  · simp [Value.cells] at hcs
    obtain ⟨rfl, rfl, rfl⟩ := hcs
    simp only [Prod.mk.injEq] at hx
    obtain ⟨rfl, rfl⟩ := hx
    simp only [if_true] at hz
    unfold maxLen at hm
    have hlen : (zs.take len).length = len := by rw [List.length_take]; omega
    refine ⟨some a, cap, zs.take len, by rw [hlen], by rw [hlen]; omega, by rw [hlen]; exact hl, fun h => (by cases h), fun hpos => ?_, fun n hn => hwz n (List.mem_of_mem_take hn)⟩
    rw [hlen] at hpos
    have h0 := hcell 0 (by omega)
    obtain ⟨b, off, spot⟩ := a
    have hspot : spot = none := by simpa [Addr.add] using World.cell?_spot h0
    subst hspot
    refine ⟨b, off, rfl, ?_, fun i hi => ?_⟩
    · have := hlt (.cell b off) (MemPlace.mem_row.2 ⟨0, by omega, by simp⟩)
      exact this
    · rw [hlen] at hi
      rw [← add_plain, hcell i (by omega)]
      congr 2
      simp [List.getD_eq_getElem?_getD, hi]
end
end Go.Proofs.Ytmclmfhimdppjaa
