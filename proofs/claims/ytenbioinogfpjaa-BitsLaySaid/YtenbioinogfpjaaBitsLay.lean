/-
  PROVED: the law BitsLay returns true for every list of bytes, every uint32 and every uint64, and leaves its arguments as they were (Rows.BitsLaySaid). Conditions: none beside the row's own.
-/
import Derived.Test.YtenbioinogfpjaaTurn
import Derived.Test.YtenbioinogfpjaaPuts
import Derived.Test.YtenbioinogfpjaaLaw
namespace Go.Proofs.Ytenbioinogfpjaa.bitsLay
open Go.ChangeShapes Go.WideShapes Go.ChangeAt Go.RowKit

theorem le_cons (n : Nat) (x : Int) : le (n + 1) x = x % 256 :: le n (x / 256) := by
  apply List.ext_getElem
  · simp [le]
  · intro i h1 h2
    rcases i with _ | i
    · simp [le]
    · simp only [le, List.getElem_map, List.getElem_range, List.getElem_cons_succ]
      rw [Int.pow_succ, Int.mul_comm, Int.ediv_ediv_of_nonneg (by decide)]
theorem big_le (M : Int) : ∀ (n : Nat) (x : Int), 0 ≤ x → x < 256 ^ n → (256 : Int) ^ n ≤ M → big M (le n x).reverse = x
  | 0, x, h0, h1, _ => by
    simp at h1
    have : x = 0 := by omega
    subst this; rfl
  | n + 1, x, h0, h1, hM => by
    have hp : (0 : Int) < 256 ^ n := Int.pow_pos (by decide)
    rw [Int.pow_succ] at h1 hM
    rw [le_cons, List.reverse_cons, big_snoc, big_le M n (x / 256) (by omega) (by omega) (by omega), Int.emod_eq_of_lt (by omega) (by omega)]
    omega
theorem big_same (l : List Int) (hb : ByteL l) : big 18446744073709551616 (pad l 4) = big 4294967296 (pad l 4) := by
  have h0 := hb.get 0
  have h1 := hb.get 1
  have h2 := hb.get 2
  have h3 := hb.get 3
  simp only [pad, big, show List.range 4 = [0, 1, 2, 3] from rfl, List.map_cons, List.map_nil, List.foldl_cons, List.foldl_nil]
  omega
theorem byte_rev (l : List Int) (h : ByteL l) : ByteL l.reverse := fun c hc => h c (List.mem_reverse.1 hc)
theorem pad_exact (l : List Int) (n : Nat) (h : l.length = n) : pad l n = l := by subst h; exact pad_all l

/-- What is known in world W, into which w has turned: old memory stands; these slices read so. -/
structure Now (w W : World) (L : List (Option Addr × List Int)) : Prop where
  below : Below w.heap.size w W
  rd : ∀ p ∈ L, Rd W W.heap.size .u8 p.1 p.2
section
variable {w W W' : World} {L : List (Option Addr × List Int)}
theorem Now.step (h : Now w W L) (hb : Below W.heap.size W W') : Now w W' L :=
  ⟨h.below.trans (hb.mono h.below.size), fun p hp => (h.rd p hp).on hb⟩
theorem Now.add (h : Now w W L) {A : Option Addr} {zs : List Int} (hr : Rd W W.heap.size .u8 A zs) : Now w W ((A, zs) :: L) :=
  ⟨h.below, fun p hp => by
    rcases List.mem_cons.1 hp with rfl | hp
    · exact hr
    · exact h.rd p hp⟩
end
/-- Each call as the law meets it: its answer is X, and what is known stays known. -/
theorem onBig32 {w W : World} {L : List (Option Addr × List Int)} (h : Now w W L) (A : Option Addr) (n cap : Nat) (zs : List Int) (X : Int) (hm : (A, zs) ∈ L) (hn : zs.length = n) (hb : ByteL zs) (hX : big 4294967296 (pad zs 4) = X) :
    Calls Try.prog 10 #[.slice A n cap] W fun e W' => e = .returned (.int .u32 X) ∧ Now w W' L := by
  subst hn
  refine (Big32 W A cap zs (h.rd _ hm) hb).mono ?_
  rintro e W' ⟨rfl, hbl⟩
  exact ⟨ret_num hX, h.step hbl⟩
theorem onLittle64 {w W : World} {L : List (Option Addr × List Int)} (h : Now w W L) (A : Option Addr) (n cap : Nat) (zs : List Int) (X : Int) (hm : (A, zs) ∈ L) (hn : zs.length = n) (hb : ByteL zs) (hX : big 18446744073709551616 (pad zs 8).reverse = X) :
    Calls Try.prog 12 #[.slice A n cap] W fun e W' => e = .returned (.int .u64 X) ∧ Now w W' L := by
  subst hn
  refine (Little64 W A cap zs (h.rd _ hm) hb).mono ?_
  rintro e W' ⟨rfl, hbl⟩
  exact ⟨ret_num hX, h.step hbl⟩
theorem onBig {w W : World} {L : List (Option Addr × List Int)} (h : Now w W L) (A : Option Addr) (n cap : Nat) (zs : List Int) (X : Int) (hm : (A, zs) ∈ L) (hn : zs.length = n) (hl : n ≤ 1000) (hb : ByteL zs) (hX : big 18446744073709551616 zs = X) :
    Calls Try.prog 14 #[.slice A n cap] W fun e W' => e = .returned (.int .u64 X) ∧ W = W' := by
  subst hn
  exact (Big W _ A cap zs (h.rd _ hm) hb (by omega)).mono fun e W' he => ⟨he.1.trans (ret_num hX), he.2⟩
theorem onNumber {w W : World} {L : List (Option Addr × List Int)} (h : Now w W L) (A : Option Addr) (n cap : Nat) (zs : List Int) (m : Nat) (mi : Int) (X : Int) (hmi : mi = m) (hm : (A, zs) ∈ L) (hn : zs.length = n) (hl : n ≤ 1000) (hl' : m ≤ 1000) (hb : ByteL zs) (hX : big 18446744073709551616 (pad zs m) = X) :
    Calls Try.prog 11 #[.slice A n cap, .int .i64 0, .int .i64 mi] W fun e W' => e = .returned (.int .u64 X) ∧ W = W' := by
  subst hn
  subst hmi
  exact (refNumber W _ A cap zs m (h.rd _ hm) hb (by omega) (by omega)).mono fun e W' he => ⟨he.1.trans (ret_num hX), he.2⟩
theorem onRefLittle {w W : World} {L : List (Option Addr × List Int)} (h : Now w W L) (A : Option Addr) (n cap : Nat) (zs : List Int) (X : Int) (hm : (A, zs) ∈ L) (hn : zs.length = n) (hb : ByteL zs) (hX : big 18446744073709551616 (pad zs 8).reverse = X) :
    Calls Try.prog 13 #[.slice A n cap, .int .i64 0] W fun e W' => e = .returned (.int .u64 X) ∧ W = W' := by
  subst hn
  exact (refLittle W _ A cap zs (h.rd _ hm) hb).mono fun e W' he => ⟨he.1.trans (ret_num hX), he.2⟩
theorem onPut {w W : World} {L : List (Option Addr × List Int)} (h : Now w W L) {f : FuncId} {args : Array Value} {n : Nat} {zs : List Int}
    (hc : Calls Try.prog f args W fun e w' => ∃ g, e = .returned (.slice (some ⟨g, 0, none⟩) n n) ∧ Blk w' g 5 (nums .u8 zs) ∧ Below W.heap.size W w') :
    Calls Try.prog f args W fun e w' => ∃ g, e = .returned (.slice (some ⟨g, 0, none⟩) n n) ∧ Now w w' ((some ⟨g, 0, none⟩, zs) :: L) :=
  hc.mono fun _ _ ⟨g, he, hg, hb⟩ => ⟨g, he, (h.step hb).add hg.rd⟩

set_option maxHeartbeats 1000000 in
theorem walk (A : Option Addr) (cap : Nat) (zs : List Int) (x y : Int) (w : World) (hr : Rd w w.heap.size .u8 A zs) (hb : ByteL zs) (hl : zs.length ≤ 9223372036854775807)
    (hx : 0 ≤ x ∧ x < 4294967296) (hy : 0 ≤ y ∧ y < 18446744073709551616) :
    Calls Try.prog 4 #[.slice A zs.length cap, .int .u32 x, .int .u64 y] w fun e w' => e = .returned (.bool true) ∧ Below w.heap.size w w' := by
  have S : Now w w [(A, zs)] := ⟨Below.refl _ _, fun p hp => by rw [List.mem_singleton] at hp; subst hp; exact hr⟩
  by_cases hbig : 1000 < zs.length
  · go_enter Try.func4, Try.ntmps4
    go_wp2_with (go_at_call 5; refine (awake_any _).mono ?_; rintro e w' ⟨rfl, rfl⟩)
    go_ret
    exact ⟨rfl, S.below⟩
  · have hle : zs.length ≤ 1000 := by omega
    have hB32 := (big_range 4294967296 (pad zs 4) (by decide)).1
    have hB32' := (big_range 4294967296 (pad zs 4) (by decide)).2
    have E1 := Lib.hid (big_same zs hb)
    have E2 := Lib.hid (pad_all zs)
    have HX := Lib.hid hx
    have HY := Lib.hid hy
    have HL := Lib.hid hle
    have F1 := Lib.hid (show (le 4 x).reverse.length = 4 by rw [List.length_reverse, length_le])
    have F2 : Hid (big 18446744073709551616 (pad (le 4 x).reverse 4) = x) := by unfold Hid; rw [pad_exact _ _ F1.out]; exact big_le _ 4 x hx.1 (by omega) (by decide)
    have F3 := Lib.hid (show (le 8 y).reverse.length = 8 by rw [List.length_reverse, length_le])
    have F8 : Hid (big 18446744073709551616 (le 8 y).reverse = y) := by unfold Hid; exact big_le _ 8 y hy.1 (by omega) (by decide)
    have F4 : Hid (big 18446744073709551616 (pad (le 8 y).reverse 8) = y) := by unfold Hid; rw [pad_exact _ _ F3.out]; exact F8.out
    have F5 := Lib.hid (length_le 8 y)
    have F6 : Hid (big 18446744073709551616 (pad (le 8 y) 8).reverse = y) := by unfold Hid; rw [pad_exact _ _ F5.out]; exact F8.out
    have F7 : Hid (big 4294967296 (pad (le 4 x).reverse 4) = x) := by unfold Hid; rw [pad_exact _ _ F1.out]; exact big_le _ 4 x hx.1 (by omega) (by decide)
    have h0 := hx.1
    have h1 := hx.2
    clear hx hy hr hl
    go_enter Try.func4, Try.ntmps4
    go_wp2_with (first | (go_at_call 5; refine (awake_any _).mono ?_; rintro e w' ⟨rfl, rfl⟩) | (go_at_call 10; ((with_reducible refine (onBig32 S A _ _ zs _ (by simp) rfl hb rfl).mono ?_); rintro e w' ⟨rfl, S⟩)) | (go_at_call 11; ((with_reducible refine (onNumber S A _ _ zs 4 4 _ (by decide) (by simp) rfl HL.out (by decide) hb E1.out).mono ?_); rintro e w' ⟨rfl, rfl⟩)) | (go_at_call 12; ((with_reducible refine (onLittle64 S A _ _ zs _ (by simp) rfl hb rfl).mono ?_); rintro e w' ⟨rfl, S⟩)) | (go_at_call 13; ((with_reducible refine (onRefLittle S A _ _ zs _ (by simp) rfl hb rfl).mono ?_); rintro e w' ⟨rfl, rfl⟩)) | (go_at_call 14; ((with_reducible refine (onBig S A _ _ zs _ (by simp) rfl HL.out hb rfl).mono ?_); rintro e w' ⟨rfl, rfl⟩)) | (go_at_call 11; ((with_reducible refine (onNumber S A _ _ zs zs.length _ _ rfl (by simp) rfl HL.out HL.out hb (congrArg _ E2.out)).mono ?_); rintro e w' ⟨rfl, rfl⟩)) | (go_at_call 15; ((with_reducible refine (onPut S (PutBig32 _ x HX.out.1)).mono ?_); rintro e w' ⟨gp, rfl, S⟩)) | (go_at_call 16; ((with_reducible refine (onPut S (PutBig64 _ y HY.out.1)).mono ?_); rintro e w' ⟨gq, rfl, S⟩)) | (go_at_call 17; ((with_reducible refine (onPut S (PutLittle64 _ y HY.out.1)).mono ?_); rintro e w' ⟨gr, rfl, S⟩)) | (go_at_call 11; ((with_reducible refine (onNumber S (some ⟨gp, 0, none⟩) 4 4 (le 4 x).reverse 4 4 x (by decide) (by simp) F1.out (by decide) (by decide) (byte_rev _ (byte_le 4 x)) F2.out).mono ?_); rintro e w' ⟨rfl, rfl⟩)) | (go_at_call 11; ((with_reducible refine (onNumber S (some ⟨gq, 0, none⟩) 8 8 (le 8 y).reverse 8 8 y (by decide) (by simp) F3.out (by decide) (by decide) (byte_rev _ (byte_le 8 y)) F4.out).mono ?_); rintro e w' ⟨rfl, rfl⟩)) | (go_at_call 13; ((with_reducible refine (onRefLittle S (some ⟨gr, 0, none⟩) 8 8 (le 8 y) y (by simp) F5.out (byte_le 8 y) F6.out).mono ?_); rintro e w' ⟨rfl, rfl⟩)) | (go_at_call 10; ((with_reducible refine (onBig32 S (some ⟨gp, 0, none⟩) 4 4 (le 4 x).reverse x (by simp) F1.out (byte_rev _ (byte_le 4 x)) F7.out).mono ?_); rintro e w' ⟨rfl, S⟩)) | (go_at_call 14; ((with_reducible refine (onBig S (some ⟨gq, 0, none⟩) 8 8 (le 8 y).reverse y (by simp) F3.out (by decide) (byte_rev _ (byte_le 8 y)) F8.out).mono ?_); rintro e w' ⟨rfl, rfl⟩)) | (go_at_call 12; ((with_reducible refine (onLittle64 S (some ⟨gr, 0, none⟩) 8 8 (le 8 y) y (by simp) F5.out (byte_le 8 y) F6.out).mono ?_); rintro e w' ⟨rfl, S⟩)))
    go_ret
    exact ⟨rfl, S.below⟩

theorem own : ownKnob Try.prog.godebug = none := by kernel_rfl
theorem laidOut : laidOutB Try.prog = true := by kernel_rfl
theorem cells5 : Try.prog.cellsOf 5 = 1 := by kernel_rfl

set_option maxRecDepth 100000 in
theorem lifted (os : Os) (started : os.Started) (H : Type) (enc : TypeId × Value → H) :
    ReturnsInHanded {} Try.checked os 4 .any (Rows.bitsLaySpec.pre6 enc Try.prog Try.f4 Rows.bitsLayRow.domain false) (Rows.bitsLaySpec.post enc Try.prog Try.f4 false true false false) := by
  refine returnsInHanded_of_change (C := Try.checked) own started (by kernel_rfl) Try.func4
    (ChangeSpec.witness6 (enc := enc) (C := Try.checked) false ⟨#[], #[.slice none 0 0, .int .u32 0, .int .u64 0], []⟩ 8 (by kernel_rfl) (by kernel_rfl) (by kernel_rfl) (by kernel_rfl)) ?_
  intro W base args ds gs before hval0 hW _ _
  have hval : ∀ (j : Nat) t v, Try.f4.params[j]? = some t → args[j]? = some v → Value.okWide Try.prog W .any base t v := hval0
  have hlt := hW.lt
  have hW' := hW
  obtain ⟨p, q, hA0, hV, hpq, _, _⟩ := hW
  have hA : DataW.TrodAll enc Try.prog W 0 (fun _ => true) true Try.f4.params.toList args.toList ds p := hA0
  rw [Try.params4] at hA hval
  obtain ⟨v0, vs0, d0, ds0, p0, q0, hargs, rfl, rfl, h0, r0⟩ := trodAll_cons hA
  obtain ⟨v1, vs1, d1, ds1, p1, q1, rfl, rfl, rfl, h1, r1⟩ := trodAll_cons r0
  obtain ⟨v2, vs2, d2, ds2, p2, q2, rfl, rfl, rfl, h2, r2⟩ := trodAll_cons r1
  obtain ⟨rfl, rfl, rfl⟩ := trodAll_nil r2
  obtain rfl : args = #[v0, v1, v2] := by cases args; simp_all
  obtain ⟨rfl, rfl⟩ := trodVars_none hV
  obtain ⟨A, cap, zs, rfl, hl, hr, hz⟩ := open_nums Try.underlying28 Try.underlying5 cells5 (hval 0 28 v0 rfl rfl) h0 (fun x hx => hlt x (by rw [hpq]; simp [hx]))
  obtain ⟨x, rfl, rfl, rfl, w1⟩ := open_int Try.underlying22 (hval 1 22 v1 rfl rfl) h1
  obtain ⟨y, rfl, rfl, rfl, w2⟩ := open_int Try.underlying23 (hval 2 23 v2 rfl rfl) h2
  have b1 : 0 ≤ x ∧ x ≤ 4294967295 := by simpa [Lit.wf, IntKind.min, IntKind.max, IntKind.bits, IntKind.signed] using w1
  have b2 : 0 ≤ y ∧ y ≤ 18446744073709551615 := by simpa [Lit.wf, IntKind.min, IntKind.max, IntKind.bits, IntKind.signed] using w2
  have hb : ByteL zs := fun c hc => by
    have : 0 ≤ c ∧ c ≤ 255 := by simpa [Lit.wf, IntKind.min, IntKind.max, IntKind.bits, IntKind.signed] using hz c hc
    omega
  refine (walk A cap zs x y W hr hb hl (by omega) (by omega)).mono fun e W' ⟨he, hbl⟩ => ?_
  subst he
  exact ⟨_, rfl, law_post laidOut (by kernel_rfl) rfl (by kernel_rfl) Try.underlying4 rfl rfl rfl hW' hbl⟩

theorem over : Rows.bitsLayRow.holds Try.pinned (OpenSpec.ofChange Rows.bitsLaySpec) :=
  OpenClaim.holds_of_wide 4 Try.f4 rfl rfl rfl rfl rfl rfl rfl ⟨rfl, rfl, rfl, rfl, rfl⟩ rfl rfl rfl rfl rfl (by kernel_rfl) Try.func4 (by kernel_rfl)
    (of_decide_eq_true (by kernel_rfl)) (by unfold Func.isWrapper; first | (rw [if_pos (by decide +kernel)]; kernel_rfl) | (rw [if_neg (by decide +kernel)]; exact ⟨rfl, rfl⟩))
    (fun os started H enc _ => lifted os started H enc)

/-- The statement. -/
theorem proved : Rows.BitsLaySaid := over
end Go.Proofs.Ytenbioinogfpjaa.bitsLay
