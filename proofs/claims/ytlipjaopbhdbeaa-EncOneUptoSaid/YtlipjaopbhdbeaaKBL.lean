/- Package item: Check, whole; what the law ItemTells asks of both sides. -/
import Derived.Test.YtlipjaopbhdbeaaKBK
import Derived.Test.YtlipjaopbhdbeaaKBF
import Derived.Test.YtlipjaopbhdbeaaKBG
import Derived.Test.YtlipjaopbhdbeaaKBJ
import Derived.Test.YtlipjaopbhdbeaaKBB
namespace Go.Proofs.Ytlipjaopbhdbeaa
open Go.RowKit Go.Sort

theorem okI_item {N : Nat} {x : It} (hx : okI N x) {d : Nat} {t : It} (ht : (d, t) ∈ x.items 1) : 0 ≤ t.n ∧ t.n < 18446744073709551616 ∧ t.s.size ≤ N ∧ t.count ≤ N :=
  ⟨(hx.2 1 _ ht).1, (hx.2 1 _ ht).2.1, (hx.2 1 _ ht).2.2, Nat.le_trans (It.items_count x 1 _ ht) hx.1⟩
theorem item_CheckW (x : It) (A : Option Addr) (cap n : Nat) (w : World) (hx : okI 1048576 x) (hn : n ≤ w.heap.size) (h : AtB w n x A cap) :
    Calls Try.prog 25 #[vI x A cap] w fun e w' => e = .returned (.int .i64 (checkR wrongI x)) ∧ Below w.heap.size w w' := by
  have hc := hx.1
  refine item_Check x A cap n w wrongI (by omega) hn h fun d t A cap W ht hnW hat => ?_
  obtain ⟨h1, h2, h3, h4⟩ := okI_item hx ht
  exact item_checkOne t A cap n W h1 h2 (by omega) hnW hat fun _ W2 hn2 hat2 => item_twice t.l A cap n W2 (by rw [It.count_eq] at h4; omega) hn2 hat2.rl
/-- Few items stand not deep in all. -/
theorem deepSum_few {x : It} (h : x.count ≤ 200) : deepSum x ≤ 2147483647 := by
  have h1 : ∀ (l : List Nat) (B : Nat), (∀ a ∈ l, a ≤ B) → l.sum ≤ l.length * B := by
    intro l B hl
    induction l with
    | nil => simp
    | cons a r ih =>
      have h2 := ih fun b hb => hl b (List.mem_cons_of_mem _ hb)
      have h3 := hl a (List.mem_cons_self ..)
      rw [List.sum_cons, List.length_cons, Nat.add_mul]
      omega
  have h2 := h1 ((x.items 1).map (·.1)) 200 fun a ha => by
    obtain ⟨p, hp, rfl⟩ := List.mem_map.1 ha
    have := It.items_deep x 1 p hp
    omega
  rw [List.length_map, It.length_items] at h2
  have h3 : x.count * 200 ≤ 200 * 200 := Nat.mul_le_mul_right 200 h
  unfold deepSum
  omega
theorem not_great {x : It} (h : greatB x = false) : x.count ≤ 200 := by
  unfold greatB at h
  rw [Bool.or_eq_false_iff] at h
  have := of_decide_eq_false h.2
  omega
/-- What Items hands back, as it is read. -/
structure ItemsAt (x : It) (n : Nat) (w : World) (g1 g2 : Nat) : Prop where
  l1 : g1 < w.heap.size
  l2 : g2 < w.heap.size
  at_ : ∀ (k d : Nat) (X : It), (x.items 1)[k]? = some (d, X) → w.cell? ⟨g2, k, none⟩ = some (.int .i64 (d : Int)) ∧ ∃ A c, w.cell? ⟨g1, k * 4, none⟩ = some (.int .i64 X.k) ∧ w.cell? ⟨g1, k * 4 + 1, none⟩ = some (.int .u64 X.n) ∧ w.cell? ⟨g1, k * 4 + 2, none⟩ = some (.string X.s) ∧
    w.cell? ⟨g1, k * 4 + 3, none⟩ = some (.slice A X.l.length c) ∧ AtB w n X A c
theorem ItemsAt.on {x : It} {n g1 g2 : Nat} {w w' : World} (h : ItemsAt x n w g1 g2) (hb : Below w.heap.size w w') (hn : n ≤ w.heap.size) : ItemsAt x n w' g1 g2 := by
  refine ⟨Nat.lt_of_lt_of_le h.l1 hb.size, Nat.lt_of_lt_of_le h.l2 hb.size, fun k d X hk => ?_⟩
  obtain ⟨h0, A, c, c0, c1, c2, c3, ha⟩ := h.at_ k d X hk
  have e1 := hb.block g1 h.l1
  have e2 := hb.block g2 h.l2
  exact ⟨cell_kept' e2 h0, A, c, cell_kept' e1 c0, cell_kept' e1 c1, cell_kept' e1 c2, cell_kept' e1 c3, ha.keep (hb.mono hn)⟩
theorem items_at {x : It} {n B : Nat} {w : World} {v1 v2 : Value} (h : ItemsPost x n 1 B w v1 v2) : ∃ g1 c1 g2 c2, v1 = .slice (some ⟨g1, 0, none⟩) x.count c1 ∧ v2 = .slice (some ⟨g2, 0, none⟩) x.count c2 ∧ ItemsAt x n w g1 g2 := by
  obtain ⟨o1, o2⟩ := h
  have hl1 := length_its x 1
  have hl2 := length_deps x 1
  obtain ⟨g1, c1, rfl, _, _, _, hg1⟩ := o1.form (by rw [hl1]; exact count_pos x)
  obtain ⟨g2, c2, rfl, _, _, _⟩ := o2.head (by rw [hl2]; exact count_pos x)
  have hg2 := o2.lt (by rw [hl2]; exact count_pos x)
  refine ⟨g1, c1, g2, c2, by rw [hl1], by rw [hl2], hg1, hg2, fun k d X hk => ?_⟩
  have hlt : k < x.count := by
    rw [← It.length_items x 1]
    rcases Nat.lt_or_ge k (x.items 1).length with h | h
    · exact h
    · rw [List.getElem?_eq_none h] at hk; cases hk
  constructor
  · have h0 := (o2.at (j := k) (by rw [hl2]; exact hlt)).1
    have e : (deps x 1).getD k 0 = (d : Int) := by rw [deps, List.getD_eq_getElem?_getD, List.getElem?_map, hk]; rfl
    rw [e] at h0
    exact h0
  · obtain ⟨X', A, c, hX, _, c0, c1, c2, c3, ha⟩ := o1.item (i := k) (by rw [hl1]; exact hlt)
    have : (its x 1)[k]? = some X := by rw [its, List.getElem?_map, hk]; rfl
    rw [this] at hX
    cases hX
    exact ⟨A, c, c0, c1, c2, c3, ha⟩
/-- What the law's loops lean on: they turn none of it. -/
structure Cx (x : It) (few : Int) (g L Bk g1 c1 g2 c2 : Nat) (A' : Option Addr) (c' : Nat) (W : World) : Prop where
  few : W.cell? ⟨g + 1, 0, none⟩ = some (.int .u8 few)
  res : W.cell? ⟨g + 2, 0, none⟩ = some (.bool false)
  resf : W.frozen? ⟨g + 2, 0, none⟩ = false
  l : W.cell? ⟨L, 0, none⟩ = some (.slice (some ⟨g1, 0, none⟩) x.count c1)
  d : W.cell? ⟨L + 1, 0, none⟩ = some (.slice (some ⟨g2, 0, none⟩) x.count c2)
  it : ItemsAt x g W g1 g2
  bk : Blk W Bk 25 #[.int .i64 x.k, .int .u64 x.n, .string x.s, .slice A' x.l.length c']
  at_ : AtB W Bk x A' c'
  gl : g ≤ L
  lb : L + 2 ≤ Bk
theorem Cx.on {x : It} {few : Int} {g L Bk g1 c1 g2 c2 : Nat} {A' : Option Addr} {c' : Nat} {W W' : World} (h : Cx x few g L Bk g1 c1 g2 c2 A' c' W) (hb : Below W.heap.size W W') : Cx x few g L Bk g1 c1 g2 c2 A' c' W' := by
  have hl := h.bk.lt
  have hg : g ≤ W.heap.size := by have := h.gl; have := h.lb; omega
  exact ⟨(hb.cell (p := ⟨g + 1, 0, none⟩) (block_lt_of_cell h.few)).trans h.few, (hb.cell (p := ⟨g + 2, 0, none⟩) (block_lt_of_cell h.res)).trans h.res, (hb.frozen (p := ⟨g + 2, 0, none⟩) (block_lt_of_cell h.res)).trans h.resf,
    (hb.cell (p := ⟨L, 0, none⟩) (block_lt_of_cell h.l)).trans h.l, (hb.cell (p := ⟨L + 1, 0, none⟩) (block_lt_of_cell h.d)).trans h.d, h.it.on hb hg, h.bk.on hb, h.at_.keep (hb.mono (Nat.le_of_lt hl)), h.gl, h.lb⟩
/-- The told one is the next of the list. -/
theorem told_next {x : It} {pre : List Told} {z : Told} (h : (pre ++ [z]).map toldOf <+: x.items 1) : (x.items 1)[pre.length]? = some (z.d, z.t) := by
  obtain ⟨r, hr⟩ := h
  rw [← hr, List.map_append, List.append_assoc, List.getElem?_append_right (by simp)]
  simp [toldOf]
theorem told_lt {x : It} {pre : List Told} {z : Told} (h : (pre ++ [z]).map toldOf <+: x.items 1) : pre.length < x.count := by
  have := h.length_le
  rw [List.length_map, List.length_append, It.length_items] at this
  exact this
theorem told_all {x : It} {xs : List Told} (h : xs.map toldOf = x.items 1) : xs.length = x.count := by
  have := congrArg List.length h
  rwa [List.length_map, It.length_items] at this
end Go.Proofs.Ytlipjaopbhdbeaa

/- Package enc: what may be is encoded; Encode, Sorted. -/
namespace Go.Proofs.Ytlipjaopbhdbeaa
open Go.RowKit

theorem over_bulk : ∀ (d : Nat) (t : It), overB d t = false → t.bulk ≤ 309 * t.count := by
  intro d
  induction d with
  | zero => intro t h; cases h
  | succ d ih =>
    intro t h
    obtain ⟨k, n, s, l⟩ := t
    simp only [overB, Bool.or_eq_false_iff, It.l, It.s] at h
    have h0 := of_decide_eq_false h.1.2
    have hl : ∀ (l : List It), l.any (overB d) = false → bulkL l ≤ 309 * countL l := by
      intro l
      induction l with
      | nil => intro _; simp [bulkL]
      | cons x r ihr =>
        intro h
        rw [List.any_cons, Bool.or_eq_false_iff] at h
        have h1 := ih x h.1
        have h2 := ihr h.2
        simp only [bulkL, countL]
        omega
    have := hl l h.2
    rw [It.bulk, It.count]
    omega
theorem great_bulk {x : It} (h : greatB x = false) : x.bulk ≤ 1000000 := by
  have h1 := not_great h
  unfold greatB at h
  rw [Bool.or_eq_false_iff] at h
  have := over_bulk 80 x h.1
  omega
mutual
theorem ok_all (t : It) (d : Nat) (h : ∀ p ∈ t.items d, okTop p.2) : t.okE := by
  obtain ⟨k, n, s, l⟩ := t
  rw [It.okE]
  rw [It.items] at h
  exact ⟨h _ (List.mem_cons_self ..), okL_all l (d + 1) fun p hp => h p (List.mem_cons_of_mem _ hp)⟩
theorem okL_all (l : List It) (d : Nat) (h : ∀ p ∈ itemsL l d, okTop p.2) : okEL l := by
  cases l with
  | nil => simp [okEL]
  | cons t r =>
    rw [itemsL] at h
    rw [okEL]
    exact ⟨ok_all t d fun p hp => h p (List.mem_append_left _ hp), okL_all r d fun p hp => h p (List.mem_append_right _ hp)⟩
end
theorem firstErr_zero : ∀ {l : List Int}, firstErr l = 0 → ∀ e ∈ l, e = 0
  | [], _, e, he => by cases he
  | x :: r, h, e, he => by
    unfold firstErr at h
    by_cases hx : x = 0
    · rw [if_neg (by simpa using hx)] at h
      rcases List.mem_cons.1 he with rfl | he
      · exact hx
      · exact firstErr_zero h e he
    · rw [if_pos hx] at h
      exact absurd h hx
theorem wrong_zero {t : It} (h : wrongI t = 0) : formB t = true ∧ rangB t = true := by
  unfold wrongI at h
  by_cases h1 : formB t = false
  · rw [if_pos h1] at h; cases h
  · rw [if_neg h1] at h
    by_cases h2 : rangB t = false
    · rw [if_pos h2] at h; cases h
    · exact ⟨by simpa using h1, by simpa using h2⟩
theorem check_ok {N : Nat} {x : It} (hN : N ≤ 1099511627776) (hx : okI N x) (h : checkR wrongI x = 0) : x.okE := by
  refine ok_all x 1 fun p hp => ?_
  have h1 : wrongI p.2 = 0 := by
    unfold checkR at h
    by_cases h64 : 64 < x.depth
    · rw [if_pos h64] at h; cases h
    · rw [if_neg h64] at h
      exact firstErr_zero h _ (List.mem_map_of_mem hp)
  obtain ⟨a, b⟩ := wrong_zero h1
  obtain ⟨c, d, e, f⟩ := okI_item hx (d := p.1) (t := p.2) hp
  refine ⟨a, b, c, d, by omega, ?_⟩
  have : p.2.l.length ≤ p.2.count := by
    rw [It.count_eq]
    have : ∀ l : List It, l.length ≤ countL l := fun l => by
      induction l with
      | nil => simp [countL]
      | cons x r ih => rw [countL, List.length_cons]; have := count_pos x; omega
    have := this p.2.l
    omega
  omega

/-- What Encode hands back. -/
def EPost (x : It) (w : World) (e : Ending) (w' : World) : Prop :=
  (checkR wrongI x ≠ 0 ∧ e = .returned (.tuple #[.slice none 0 0, .int .i64 (checkR wrongI x)]) ∧ Below w.heap.size w w') ∨
  (checkR wrongI x = 0 ∧ x.okE ∧ ∃ v, e = .returned (.tuple #[v, .int .i64 0]) ∧ Own w' w.heap.size .u8 5 v x.srt.enc ∧ Below w.heap.size w w')

set_option maxRecDepth 100000 in
theorem enc_Encode (x : It) (A : Option Addr) (cap n : Nat) (w : World) (hx : okI 1048576 x) (hb : x.bulk ≤ 1099511627776) (hn : n ≤ w.heap.size) (h : AtB w n x A cap) :
    Calls Try.prog 8 #[vI x A cap] w fun e w' => EPost x w e w' := by
  obtain ⟨w1, hw1, b1, S⟩ := iblk1 w 25 #[.int .i64 x.k, .int .u64 x.n, .string x.s, .slice A x.l.length cap]
  obtain ⟨p0, p1, p2, p3, -⟩ := iblk b1
  obtain ⟨r, hr⟩ : ∃ r, checkR wrongI x = r := ⟨_, rfl⟩
  have hC := item_CheckW x A cap n w1 hx (Nat.le_trans hn S.size) (h.keep (S.mono hn))
  have hX := fun (w' : World) (hb' : Below w.heap.size w w') (ok : x.okE) => enc_sorted x.count x A cap w' (Nat.le_refl _) ok hb ((h.keep (hb'.mono hn)).more (Nat.le_trans hn hb'.size))
  have hL := fun (w' : World) (A' : Option Addr) (c' B : Nat) (ok : x.okE) (ha : AtB w' w'.heap.size x.srt A' c') (hB : w'.heap.size = B) => enc_lay x.srt.count x.srt A' c' w'.heap.size B (.slice none 0 0) [] w' (Nat.le_refl _) (srt_ok x ok) (by rw [(srt_bulk x ok).1]; simpa using hb) ha (Own.nil _ _ _ _) (by omega) (by omega)
  rw [hr] at hC
  simp only [vI] at hC hX hL ⊢
  have HC := Lib.hid hC
  have HX := Lib.hid hX
  have HL := Lib.hid hL
  have HOK := Lib.hid (fun hz : r = 0 => check_ok (by omega : (1048576 : Nat) ≤ 1099511627776) hx (hr.trans hz))
  have HP : RowKit.Hid (∀ e w', ((r ≠ 0 ∧ e = .returned (.tuple #[.slice none 0 0, .int .i64 r]) ∧ Below w.heap.size w w') ∨ (r = 0 ∧ x.okE ∧ ∃ v, e = .returned (.tuple #[v, .int .i64 0]) ∧ Own w' w.heap.size .u8 5 v x.srt.enc ∧ Below w.heap.size w w')) → EPost x w e w') := Lib.hid (fun e w' h => by unfold EPost; rw [hr]; exact h)
  have HS := Lib.hid S
  have HB1 := Lib.hid b1
  clear hC hX hL hb hx h hr
  by_cases hz : r = 0
  · subst hz
    have ok := Lib.hid (HOK.out rfl)
    go_enter Try.func8, Try.ntmps8
    go_wp2_with fail
    refine HC.out.mono ?_
    rintro e w2 ⟨rfl, S2⟩
    have HS2 := Lib.hid (HS.out.trans (S2.mono HS.out.size))
    obtain ⟨q0, q1, q2, q3, -⟩ := iblk (HB1.out.on S2)
    clear S2 HC p0 p1 p2 p3 hw1
    go_wp2_with fail
    refine (HX.out _ HS2.out ok.out).mono ?_
    rintro e w3 ⟨A', c', rfl, hat, S3⟩
    have HS3 := Lib.hid (HS2.out.trans (S3.mono HS2.out.size))
    have hsz := S3.size
    have HL3 := Lib.hid (HL.out w3 A' c' _ ok.out ⟨hat.le, hat.nil, hat.at_.bound.more fun b hb => hb.2⟩ rfl)
    clear HX HL S3 hat q0 q1 q2 q3
    go_wp2_with fail
    refine HL3.out.mono ?_
    rintro e w4 ⟨v, rfl, ho, S4⟩
    have HO := Lib.hid ((ho.base HS3.out.size))
    have HS4 := Lib.hid (HS3.out.trans (S4.mono HS3.out.size))
    clear HL3 ho S4
    go_wp2_with fail
    refine bodyPost_ret (results_tmp2 rfl _ _ _) rfl ?_
    exact HP.out _ _ (.inr ⟨by trivial, ok.out, v, rfl, HO.out, HS4.out⟩)
  · go_enter Try.func8, Try.ntmps8
    go_wp2_with fail
    refine HC.out.mono ?_
    rintro e w2 ⟨rfl, S2⟩
    have HS2 := Lib.hid (HS.out.trans (S2.mono HS.out.size))
    clear S2 HC p0 p1 p2 p3 hw1
    go_wp2_with fail
    refine bodyPost_ret (results_tmp2 rfl _ _ _) rfl ?_
    exact HP.out _ _ (.inl ⟨hz, rfl, HS2.out⟩)

set_option maxRecDepth 100000 in
theorem enc_Sorted (x : It) (A : Option Addr) (cap n : Nat) (w : World) (hx : okI 1048576 x) (hb : x.bulk ≤ 1099511627776) (hn : n ≤ w.heap.size) (h : AtB w n x A cap) (hz : checkR wrongI x = 0) :
    Calls Try.prog 10 #[vI x A cap] w fun e w' => ∃ A' c', e = .returned (vI x.srt A' c') ∧ AtS w' (fun b => w.heap.size ≤ b) x.srt A' c' ∧ Below w.heap.size w w' := by
  have hC := fun (w' : World) (hb' : Below w.heap.size w w') => item_CheckW x A cap n w' hx (Nat.le_trans hn hb'.size) (h.keep (hb'.mono hn))
  have ok := check_ok (by omega : (1048576 : Nat) ≤ 1099511627776) hx hz
  have hX := fun (w' : World) (hb' : Below w.heap.size w w') => enc_sorted x.count x A cap w' (Nat.le_refl _) ok hb ((h.keep (hb'.mono hn)).more (Nat.le_trans hn hb'.size))
  rw [hz] at hC
  obtain ⟨y, hy⟩ : ∃ y, x.srt = y := ⟨_, rfl⟩
  rw [hy] at hX ⊢
  simp only [vI] at hC hX ⊢
  have HC := Lib.hid hC
  have HX := Lib.hid hX
  clear hC hX hb hx h ok hz hy
  go_enter Try.func10, Try.ntmps10
  go_wp2_with fail
  obtain ⟨w1, hw1, b1, b2, S1⟩ := iblk2 w 25 #[.int .i64 x.k, .int .u64 x.n, .string x.s, .slice A x.l.length cap] #[.int .i64 0, .int .u64 0, .string ⟨#[]⟩, .slice none 0 0]
  rw [hw1]
  refine (HC.out _ S1).mono ?_
  rintro e w2 ⟨rfl, S2⟩
  obtain ⟨q0, q1, q2, q3, -⟩ := iblk (b1.on S2)
  have HB2 := Lib.hid (b2.on S2)
  have HS2 := Lib.hid (S1.trans (S2.mono S1.size))
  clear S2 HC hw1 b1 b2 S1
  go_wp2_with fail
  refine (HX.out _ HS2.out).mono ?_
  rintro e w3 ⟨A', c', rfl, hat, S3⟩
  have HB3 := Lib.hid (HB2.out.on S3)
  obtain ⟨r0, r1, r2, r3, -⟩ := iblk HB3.out
  have g0 := HB3.out.free 0
  have g1 := HB3.out.free 1
  have g2 := HB3.out.free 2
  have g3 := HB3.out.free 3
  have HS3 := Lib.hid (HS2.out.trans (S3.mono HS2.out.size))
  have HAT := Lib.hid (hat.more fun b hb => Nat.le_trans HS2.out.size hb)
  have HL2 := Lib.hid HB2.out.lt
  clear HX S3 q0 q1 q2 q3
  have HTT := Lib.hid hat
  clear hat
  go_wp2_with fail
  have ho : Only (w.heap.size + 1) w3 ((((w3.setCell ⟨w.heap.size + 1, 0, none⟩ (.int .i64 y.k)).setCell ⟨w.heap.size + 1, 1, none⟩ (.int .u64 y.n)).setCell ⟨w.heap.size + 1, 2, none⟩ (.string y.s)).setCell ⟨w.heap.size + 1, 3, none⟩ (.slice A' y.l.length c')) := ((((Only.refl _ _).put 0 _).put 1 _).put 2 _).put 3 _
  have hbk : Blk ((((w3.setCell ⟨w.heap.size + 1, 0, none⟩ (.int .i64 y.k)).setCell ⟨w.heap.size + 1, 1, none⟩ (.int .u64 y.n)).setCell ⟨w.heap.size + 1, 2, none⟩ (.string y.s)).setCell ⟨w.heap.size + 1, 3, none⟩ (.slice A' y.l.length c')) (w.heap.size + 1) 25 #[.int .i64 y.k, .int .u64 y.n, .string y.s, .slice A' y.l.length c'] := (((HB3.out.put 0 _).put 1 _).put 2 _).put 3 _
  refine bodyPost_ret (results_blk rfl _ rfl hbk Try.underlying25 rfl sizeItem) rfl ?_
  refine ⟨A', c', rfl, ⟨HTT.out.le, HTT.out.nil, AtL.keep (fun b hs hl => ho.block b hl (fun e => by injection e with e; have := HL2.out; omega)) (fun b hs => Nat.le_trans HS2.out.size hs) _ _ HTT.out.at_⟩, HS3.out.trans (ho.below (by omega) HS3.out.size)⟩
end Go.Proofs.Ytlipjaopbhdbeaa
