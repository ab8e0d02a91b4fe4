/- A strings.Builder that is written and read; the texts of faults. -/
import Derived.Test.YtabmckjlmpajoaaDoorKAU
import Derived.Test.YtabmckjlmpajoaaDoorKAC
import Derived.Test.YtabmckjlmpajoaaDoorKBA
import Derived.Lib.FrozenHead
import Derived.Lib.OthersKept
import Derived.Lib.QuietBelow
namespace Go.Proofs.YtabmckjlmpajoaaDoor
open Go.RowKit Go.Sort

/-! ### The builder -/
def TB : TypeId := 118
theorem sizeB : (Tryd.prog.info? 118).map (·.size) = some 2 := by kernel_rfl
theorem liesB : liesAt Tryd.prog Tryd.prog.depth 118 (2 / Tryd.prog.cellsOf 118) 0 118 1 = true := by kernel_rfl
theorem infoU8 : (Tryd.prog.info? 5).map (fun i => (i.zero, i.size, i.bytes)) = some (some (.int .u8 0), 1, 1) := by kernel_rfl
theorem b_check (B b : Nat) (bs : List Value) (w : World) (h : Lib.IsBuilderF 118 5 B b bs w) :
    Calls Tryd.prog 62 #[.pointer (some ⟨b, 0, none⟩)] w fun e w' => e = .returned (.tuple #[]) ∧ Lib.BuilderAtF 118 5 B b (.pointer (some ⟨b, 0, none⟩)) bs w' ∧ Below B w w' := by
  obtain ⟨j, hj, hjs⟩ := Option.map_eq_some_iff.1 sizeB
  rcases h with h | h
  · have h0 := h.cell0
    have hsh := h.shape
    have hfz := h.frozen0
    have H := Lib.hid h
    have h63 := @run_callFunc_extern Tryd.prog 63 _ Extern.AbiNoEscape.same Tryd.func63 (by kernel_rfl) (by kernel_rfl) (by kernel_rfl) (by kernel_rfl)
    have g1 := Lib.run_to_unsafe (P := Tryd.prog) w ⟨b, 0, none⟩ Tryd.underlying116 Tryd.underlying54 hj (by rw [hjs]; decide) hsh (Nat.zero_lt_succ 1)
    have g2 := Lib.run_from_unsafe (P := Tryd.prog) w ⟨b, 0, none⟩ Tryd.underlying54 Tryd.underlying116 hj hsh liesB
    have g3 : ∀ x w, (Extern.AbiNoEscape.same #[x]).run Tryd.prog w = .ok x w := fun x w => rfl
    clear h
    go_enter Tryd.func62, Tryd.ntmps62
    go_wp2
    go_end0
    exact ⟨rfl, H.out.used _, (Below.refl B w).setCell (p := ⟨b, 0, none⟩) H.out.1 _⟩
  · have h0 := h.cell0
    have g1 := Lib.run_neq_ptr_same (P := Tryd.prog) w ⟨b, 0, none⟩ Tryd.underlying116 hj
    have H := Lib.hid h
    clear h
    go_enter Tryd.func62, Tryd.ntmps62
    go_wp2
    go_end0
    exact ⟨rfl, H.out, Below.refl B _⟩

theorem own_on {w w' : World} {base : Nat} {e : TypeId} {size : Nat} {v : Value} {n : Nat} {xs : List Value} (h : w.ownsRowF base e size v n xs) (hb : Below w.heap.size w w') : w'.ownsRowF base e size v n xs := by
  refine ⟨h.1, h.2.imp id ?_⟩
  rintro ⟨g, cap, cur, fz, hv, hB, hg, rest⟩
  exact ⟨g, cap, cur, fz, hv, hB, (hb.block g (Array.getElem?_eq_some_iff.1 hg).1).trans hg, rest⟩
theorem builder_on {T e : TypeId} {B b : Nat} {p : Value} {bs : List Value} {w w' : World} (h : Lib.BuilderAtF T e B b p bs w) (hb : Below w.heap.size w w') : Lib.BuilderAtF T e B b p bs w' := by
  have hlt := h.lt
  obtain ⟨hB, v, hk, hown, hne⟩ := h
  exact ⟨hB, v, (hb.block b hlt).trans hk, own_on hown hb, hne⟩

/-- What WriteString comes to. -/
def WPost (B b : Nat) (acc : List UInt8) (s : ByteArray) (w : World) (e : Ending) (w' : World) : Prop :=
  e = .returned (.tuple #[.int .i64 s.size, .nilIface]) ∧ Lib.BuilderAtF 118 5 B b (.pointer (some ⟨b, 0, none⟩)) (Lib.byteCells (acc ++ s.data.toList)) w' ∧ Below B w w'
set_option maxHeartbeats 2000000 in
set_option maxRecDepth 100000 in
theorem b_write (B b : Nat) (acc : List UInt8) (s : ByteArray) (w : World) (h : Lib.IsBuilderF 118 5 B b (Lib.byteCells acc) w) (hlen : acc.length + s.size ≤ 140737488355328) (hBw : B ≤ w.heap.size) :
    Calls Tryd.prog 60 #[.pointer (some ⟨b, 0, none⟩), .string s] w (WPost B b acc s w) := by
  unfold WPost
  rw [Lib.byteCells_append, ← Lib.strCells_eq]
  have hlen' : (Lib.byteCells acc).length + s.size ≤ 140737488355328 := by rw [Lib.byteCells_length]; exact hlen
  clear hlen
  generalize Lib.byteCells acc = bs at *
  obtain ⟨i0, hi, hz0, hz1, hz2⟩ := info_parts infoU8
  go_enter Tryd.func60, Tryd.ntmps60
  go_wp2_with (go_at_call 62; refine (b_check B b bs _ h).mono ?_)
  rintro e w1 ⟨rfl, h1, hb1⟩
  obtain ⟨hB, v, hbk, hown, hne⟩ := h1
  have c0 : w1.cell? ⟨b, 0, none⟩ = some (.pointer (some ⟨b, 0, none⟩)) := by rw [Lib.cell_of_heap hbk]; rfl
  have c1 : w1.cell? ⟨b, 1, none⟩ = some v := by rw [Lib.cell_of_heap hbk]; rfl
  go_wp2_with (at_builtin; refine Lib.wpList_append_own_stringF _ rfl _ _ 88 9 rfl B 5 i0 Tryd.underlying88 Tryd.underlying9 hi hz0 hz1 hz2 _ _ _ rfl hown s rfl ?c3 ?c4 ?c5 ?_)
  case c3 => unfold maxLen; omega
  case c4 => omega
  case c5 => have := hb1.size; omega
  intro v' w2 hown' hgrow _
  have hlt : b < w1.heap.size := (Array.getElem?_eq_some_iff.1 hbk).1
  have hb2 : w2.heap[b]? = some (.cells #[.pointer (some ⟨b, 0, none⟩), v] 118 (0, 0)) := by
    rw [hgrow.block b hlt (fun e => hne e.symm)]
    exact hbk
  have d0 : w2.cell? ⟨b, 0, none⟩ = some (.pointer (some ⟨b, 0, none⟩)) := by rw [Lib.cell_of_heap hb2]; rfl
  have d1 : w2.cell? ⟨b, 1, none⟩ = some v := by rw [Lib.cell_of_heap hb2]; rfl
  have f1 : w2.frozen? ⟨b, 1, none⟩ = false := Lib.frozen_of_heap hb2 1
  obtain ⟨ao, n', cap, rfl⟩ : ∃ ao n' cap, v' = .slice ao n' cap := by
    rcases hown'.2 with ⟨hv, _⟩ | ⟨g, cap, cur, fz, hv, _⟩
    · exact ⟨_, _, _, hv⟩
    · exact ⟨_, _, _, hv⟩
  go_wp2
  go_ret2
  refine ⟨rfl, ?_, ?_⟩
  · exact Lib.BuilderAtF.put (T := 118) (e := 5) hB hb2 (bs' := bs ++ Lib.strCells s) (by simpa [Lib.strCells_length] using hown') (by decide)
  · exact (hb1.grown hgrow (by have := hb1.size; omega) (fun k hk => (hown.lt k hk).1)).setCell (p := ⟨b, 1, none⟩) hB _

/-! ### A fault's text -/
theorem flt_text (w : World) (b : Nat) (e a : Int) (hB : Blk w b 40 #[.int .i64 e, .int .i64 a]) (he : I64 e) (ha : I64 a) (ht : Tab w) :
    Calls Tryd.prog 12 #[.pointer (some ⟨b, 0, none⟩)] w fun ev w' => ev = .returned (.string (fltT e a)) ∧ Below w.heap.size w w' := by
  have c0 : w.cell? ⟨b, 0, none⟩ = some (.int .i64 e) := hB.cell 0
  have c1 : w.cell? ⟨b, 1, none⟩ = some (.int .i64 a) := hB.cell 1
  have k0 := cell_regrown c0
  have k1 := cell_regrown c1
  have hs1 := ita_size a ha.1 ha.2
  have hs2 := numT_size he
  have P1 : ∀ w, (Op.stringOp .add ⟨#[97, 116, 32]⟩ (ita a)).run Tryd.prog w = .ok (.string (⟨#[97, 116, 32]⟩ ++ ita a)) w := fun w => run_string_add_sum (P := Tryd.prog) (w := w) _ _ (by show 3 + _ ≤ _; omega)
  have P2 : ∀ w, (Op.stringOp .add (⟨#[97, 116, 32]⟩ ++ ita a) ⟨#[58, 32]⟩).run Tryd.prog w = .ok (.string (⟨#[97, 116, 32]⟩ ++ ita a ++ ⟨#[58, 32]⟩)) w := fun w => run_string_add_sum (P := Tryd.prog) (w := w) _ _ (by rw [ByteArray.size_append]; show 3 + _ + 2 ≤ _; omega)
  have P3 : ∀ w, (Op.stringOp .add (⟨#[97, 116, 32]⟩ ++ ita a ++ ⟨#[58, 32]⟩) (numT e)).run Tryd.prog w = .ok (.string (fltT e a)) w := fun w => run_string_add_sum (P := Tryd.prog) (w := w) _ _ (by rw [ByteArray.size_append, ByteArray.size_append]; show 3 + _ + 2 + _ ≤ _; omega)
  clear hs1 hs2
  generalize hA1 : (⟨#[97, 116, 32]⟩ : ByteArray) ++ ita a = X1 at *
  generalize hA2 : X1 ++ (⟨#[58, 32]⟩ : ByteArray) = X2 at *
  have K1 := Lib.hid (fun dq os => Calls.regrown_of (lib_itoa a ha.1 ha.2 (grow (redrawn w dq) os) (ht.on (below_regrown w dq os))))
  have K2 := Lib.hid (fun dq os => Calls.regrown_of (num_text e he (grow (redrawn w dq) os) (ht.on (below_regrown w dq os))))
  clear ht hB he ha hA1 hA2
  go_enter Tryd.func12, Tryd.ntmps12
  go_wp2_with fail
  refine wp_region_quiet_below (by kernel_rfl) (by kernel_rfl) ?_
  repeat (quiet_step (first | exact K1.out _ _ | exact K2.out _ _))
  refine wpQuiet_nil ?_
  intro _ hw'
  obtain ⟨⟨dq, osq⟩, hw''⟩ := hw'
  subst hw''
  go_wp2_with fail
  go_ret
  exact ⟨rfl, below_regrown w dq osq⟩
end Go.Proofs.YtabmckjlmpajoaaDoor
