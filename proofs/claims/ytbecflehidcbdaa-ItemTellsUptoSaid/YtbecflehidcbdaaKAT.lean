/- Package item: All. -/
import Derived.Test.YtbecflehidcbdaaKAS
namespace Go.Proofs.Ytbecflehidcbdaa
open Go.RowKit Go.Shelf
attribute [local go_sem] Oper.semAt_some

/-- How deep all stand, in all. -/
def tdSum {w : World} {n : Nat} {X0 : It} (pre : List (TD w n X0)) : Nat := (pre.map fun z => z.1.d).sum
def deepSum (x : It) : Nat := ((x.items 1).map (·.1)).sum
theorem tdSum_snoc {w : World} {n : Nat} {X0 : It} (pre : List (TD w n X0)) (z : TD w n X0) : tdSum (pre ++ [z]) = tdSum pre + z.1.d := by simp [tdSum]
theorem tdSum_all {w : World} {n : Nat} {X0 : It} {xs : List (TD w n X0)} {x : It} (h : xs.map tdOf = x.items 1) : tdSum xs = deepSum x := by
  unfold tdSum deepSum
  rw [← h, List.map_map]
  rfl
theorem tdSum_pre {w : World} {n : Nat} {X0 : It} {pre : List (TD w n X0)} {x : It} (h : pre.map tdOf <+: x.items 1) : tdSum pre ≤ deepSum x := by
  obtain ⟨r, hr⟩ := h
  unfold tdSum deepSum
  rw [← hr, List.map_append, List.sum_append, List.map_map]
  exact Nat.le_add_right _ _
theorem Cpd.atB {w : World} {n B : Nat} {x : It} {A : Option Addr} {cap : Nat} (h : Cpd w n B x.l A cap) : AtB w w.heap.size x A cap :=
  AtV.toB ⟨h.1, h.2.1, h.at.more fun _ _ => trivial⟩

set_option maxRecDepth 100000 in
set_option maxHeartbeats 4000000 in
theorem item_All (x : It) (A : Option Addr) (cap n : Nat) (w : World) (hc : x.count ≤ 1099511627775) (hn : n ≤ w.heap.size) (h : AtB w n x A cap) (hsum : deepSum x ≤ 2147483647) :
    Calls Try.prog 8 #[vI x A cap] w fun e w' => ∃ Bk A' c', e = .returned (.func (.func 21) #[] #[.pointer (some ⟨Bk, 0, none⟩)]) ∧
      Blk w' Bk 25 #[.int .i64 x.k, .int .u64 x.n, .string x.s, .slice A' x.l.length c'] ∧ AtB w' Bk x A' c' ∧ w.heap.size ≤ Bk ∧ Below w.heap.size w w' := by
  obtain ⟨w1, hw1, b1, S⟩ := iblk1 w 25 #[.int .i64 x.k, .int .u64 x.n, .string x.s, .slice A x.l.length cap]
  obtain ⟨p0, p1, p2, p3, -⟩ := iblk b1
  have C1 := item_Copy x A cap n w1 hc (Nat.le_trans hn S.size) (h.keep (S.mono hn))
  have HWK := fun A cap w => item_walk x A cap w
  have HC := Lib.hid (fun _ : Unit => hc)
  have HSUM := Lib.hid (fun _ : Unit => hsum)
  have HS := Lib.hid S
  simp only [vI] at HWK C1 ⊢
  have HC1 := Lib.hid C1
  clear C1 hsum S b1 h hn hc
  refine (callsIn_wide (n := 0)).1 ?_
  refine callsIn_of_wp_marks Try.func8 rfl trivial ?_ rfl
  simp only [Try.ntmps8, List.size_toArray, List.length_cons, List.length_nil, Nat.reduceAdd, Nat.reduceSub, Array.replicate_succ, Array.replicate_zero, List.push_toArray, List.append_toArray, List.nil_append, List.cons_append]
  gi_wp2_with (first
    | (refine ⟨trivial, rfl, ?_⟩; gi_at_call 19; refine (callsIn_wide.2 HC1.out).mono ?_; rintro e w2 ⟨A', c', rfl, hcp, hb2⟩; have HCP := Lib.hid hcp; have HB2 := Lib.hid (HS.out.trans (hb2.mono HS.out.size)); clear hcp hb2)
    | (refine ⟨trivial, rfl, ?_⟩; gi_at_call 20; refine (callsIn_wide.2 (HWK _ _ _)).mono ?_; rintro e w' ⟨rfl, rfl⟩))
  clear hw1 p0 p1 p2 p3 HC1
  obtain ⟨w5, hw5, b1, b2, b3, S5, hz⟩ := alloc3 w2 25 3 25 #[.int .i64 x.k, .int .u64 x.n, .string x.s, .slice A' x.l.length c'] #[.int .i64 0] #[.int .i64 x.k, .int .u64 x.n, .string x.s, .slice A' x.l.length c']
  rw [hw5]
  clear hw5
  have hat := HCP.out.atB
  have hgw := HB2.out.size
  obtain ⟨g, hg⟩ : ∃ g, w2.heap.size = g := ⟨_, rfl⟩
  rw [hg] at b1 b2 b3 S5 hz hat hgw ⊢
  have hat5 := hat.keep S5
  have HAT := Lib.hid hat
  have HGW := Lib.hid hgw
  clear hat hgw
  refine wp_rangeG (gf := 27) (lb := #[.pointer (some ⟨g + 1 + 1, 0, none⟩)]) rfl (enters_of Try.func27 (by kernel_rfl) rfl)
    (walk_seqG x A' c' g (g + 2) w5 (HC.out ()) (by omega) b3 hat5) (Below.refl _ _) (by omega) td_size
    (fun pre W => Blk W g 25 #[.int .i64 x.k, .int .u64 x.n, .string x.s, .slice A' x.l.length c'] ∧ Blk W (g + 1) 3 #[.int .i64 (tdSum pre : Int)] ∧ Below g w2 W) (fun _ _ _ => False)
    (fun s W1 W2 ⟨k0, k1, k2⟩ hb => ⟨k0.below hb (by omega), k1.below hb (by omega), k2.trans (hb.mono (by omega))⟩) (fun _ _ _ _ hf _ => hf) ⟨b1, b2, S5⟩
    (fun z a' _ => a' = { tmps := #[.agg #[.int .i64 x.k, .int .u64 x.n, .string x.s, .slice A x.l.length cap], .pointer (some ⟨w.heap.size, 0, none⟩), .nilFunc, .pointer (some ⟨g, 0, none⟩), .pointer (some ⟨g + 1, 0, none⟩), .int .i64 (z.1.d : Int), .agg #[.int .i64 x.k, .int .u64 x.n, .string x.s, .slice A x.l.length cap], .agg #[.int .i64 x.k, .int .u64 x.n, .string x.s, .slice A' x.l.length c'], .agg #[.int .i64 x.k, .int .u64 x.n, .string x.s, .slice A' x.l.length c'], .func (.func 27) #[] #[.pointer (some ⟨g + 1 + 1, 0, none⟩)], .int .i64 (z.1.d : Int), vI z.1.t z.1.A z.1.cap, undef, undef, undef, undef, undef, undef, undef, undef], defers := [] }) (fun _ _ _ _ ha => ha) ?assign ?body ?done ?stop
  case assign =>
    intro l pre z W K hi _ _ hs hlen hK
    dsimp only [tdEnc]
    gi_wp2
    exact hK _ _ (Rs.refl _ _ _) hi (by simp)
  case body =>
    rintro l pre z a' W ⟨k0, k1, k2⟩ hG rfl hs hlen
    have hle := tdSum_pre hG
    have hsn := tdSum_snoc pre z
    rw [hsn] at hle
    have hsm := HSUM.out ()
    obtain ⟨a, ha⟩ : ∃ a, tdSum pre = a := ⟨_, rfl⟩
    obtain ⟨dz, hdz⟩ : ∃ dz, z.1.d = dz := ⟨_, rfl⟩
    rw [ha, hdz] at hle
    rw [ha] at k1 hsn
    rw [hdz] at hsn ⊢
    have HSN := Lib.hid hsn
    have hcell : W.cell? ⟨g + 1, 0, none⟩ = some (.int .i64 (a : Int)) := by rw [k1.cell]; rfl
    have hfr := k1.free 0
    have hpb : (a : Int) + dz < 1099511627776 := by omega
    clear hle hsm hsn hG ha hdz
    gi_wp2
    refine ⟨Rs.set W _ (by omega) (by omega), ?_, by have := k1.put 0 (.int .i64 ((a : Int) + dz)); rw [HSN.out]; simpa using this, k2.setCell (p := ⟨g + 1, 0, none⟩) (by show g ≤ g + 1; omega) _⟩
    exact Blk.far k0 (by simp) _
  case done =>
    rintro xs W hs hx ⟨k0, k1, k2⟩ hK
    have he : ((tdSum xs : Nat) : Int) ≤ 2147483647 := by rw [tdSum_all hx]; have := HSUM.out (); omega
    generalize ((tdSum xs : Nat) : Int) = q at *
    have hcell : W.cell? ⟨g + 1, 0, none⟩ = some (.int .i64 q) := by rw [k1.cell]; rfl
    clear hx
    have HK0 := Lib.hid k0
    have HK2 := Lib.hid k2
    clear k0 k1 k2
    gi_wp2
    refine ⟨by simp, .inl ⟨_, _, rfl, run_takeDeferred hK, ?_⟩⟩
    have hbl : Below g w2 (W.putObj w5.heap.size (.deferred none)) := put_below W _ HK2.out (by omega) (by omega)
    exact ⟨_, results_tmp rfl _ _ _, g, A', c', rfl, HK0.out.putFar (by omega) _, HAT.out.keep hbl, HGW.out, HB2.out.trans (hbl.mono HGW.out)⟩
  case stop =>
    rintro c pre W _ _ hf _
    exact hf.elim
end Go.Proofs.Ytbecflehidcbdaa

/- Package item: what All hands back. -/
namespace Go.Proofs.Ytbecflehidcbdaa
open Go.RowKit Go.Shelf
attribute [local go_sem] Oper.semAt_some

def toldV (z : Told) : Array Value := #[.int .i64 (z.d : Int), vI z.t z.A z.cap]
def toldOf (z : Told) : Nat × It := (z.d, z.t)
/-- How it lies in memory. -/
def OkT (B : Nat) (z : Told) (W : World) : Prop := z.t.l.length ≤ z.cap ∧ (z.A = none → z.cap = 0) ∧ AtL W (B ≤ ·) z.t.l z.A
theorem told_size (z : Told) : (toldV z).size = 2 := rfl

set_option maxRecDepth 100000 in
set_option maxHeartbeats 4000000 in
theorem all_in (x : It) (A : Option Addr) (cap n Bk l : Nat) (W : World) (hc : x.count ≤ 1099511627775) (hn : n ≤ W.heap.size) (hb : Blk W Bk 25 #[.int .i64 x.k, .int .u64 x.n, .string x.s, .slice A x.l.length cap]) (h : AtB W n x A cap)
    (J Jx : List Told → World → Prop) (hJ : ∀ s W1 W2, J s W1 → Below W.heap.size W1 W2 → J s W2) (hJx : ∀ s W1 W2, Jx s W1 → Below W.heap.size W1 W2 → Jx s W2)
    (hY : ∀ pre z W1, J pre W1 → (pre ++ [z]).map toldOf <+: x.items 1 → OkT W.heap.size z W1 → W.heap.size ≤ W1.heap.size → pre.length < x.count → YieldAt Fence.wide 0 Try.prog l (toldV z) W1 fun e W' =>
      (e = .returned (.bool true) ∧ J (pre ++ [z]) W' ∧ Rs n W.heap.size W1 W') ∨ (e = .returned (.bool false) ∧ Jx (pre ++ [z]) W' ∧ Rs n W.heap.size W1 W'))
    (h0 : J [] W) :
    CallsIn Fence.wide 0 Try.prog 21 #[.func (.yield l) #[] #[], .pointer (some ⟨Bk, 0, none⟩)] W fun e W' => (∃ v, e = .returned v) ∧ ((∃ xs : List Told, xs.map toldOf = x.items 1 ∧ J xs W') ∨ (∃ pre : List Told, pre.map toldOf <+: x.items 1 ∧ Jx pre W')) := by
  obtain ⟨w1, hw1, b1, S1⟩ := iblk1 W 44 #[.func (.yield l) #[] #[]]
  have bk1 := hb.on S1
  obtain ⟨p0, p1, p2, p3, -⟩ := iblk bk1
  have HWK := fun w => item_walk x A cap w
  have hz1 : w1.heap.size = W.heap.size + 1 := by rw [← hw1]; simp
  have h1 := h.keep (S1.mono hn)
  simp only [vI] at HWK
  refine callsIn_of_wp_marks Try.func21 rfl trivial ?_ rfl
  simp only [Try.ntmps21, List.size_toArray, List.length_cons, List.length_nil, Nat.reduceAdd, Nat.reduceSub, Array.replicate_succ, Array.replicate_zero, List.push_toArray, List.append_toArray, List.nil_append, List.cons_append]
  gi_wp2_with (refine ⟨trivial, rfl, ?_⟩; gi_at_call 20; refine (callsIn_wide.2 (HWK _)).mono ?_; rintro e w' ⟨rfl, rfl⟩)
  clear hw1 p0 p1 p2 p3 HWK
  obtain ⟨w2, hw2, b2, S2, hz2⟩ := alloc1 w1 25 #[.int .i64 x.k, .int .u64 x.n, .string x.s, .slice A x.l.length cap]
  rw [hw2]
  clear hw2
  have b12 := b1.on S2
  have S12 := S1.trans (S2.mono (by omega))
  have h2 := h1.keep (S2.mono (by omega))
  obtain ⟨g, hg⟩ : ∃ g, W.heap.size = g := ⟨_, rfl⟩
  rw [hg] at hz1 b12 S12 hJ hJx hY hn ⊢
  rw [hz1] at hz2 b2
  have HJ := Lib.hid hJ
  have HJX := Lib.hid hJx
  have HY := Lib.hid hY
  clear hY
  refine wp_rangeG (gf := 27) (lb := #[.pointer (some ⟨g + 1, 0, none⟩)]) rfl (enters_of Try.func27 (by kernel_rfl) rfl)
    (walk_seqG x A cap n (g + 1) w2 hc (by omega) b2 h2) (Below.refl _ _) (by omega) td_size
    (fun pre W' => ∃ pre2 : List Told, pre2.map toldOf = pre.map tdOf ∧ J pre2 W' ∧ Blk W' g 44 #[.func (.yield l) #[] #[]] ∧ Below n w2 W')
    (fun c pre W' => c = .ret ∧ ∃ pre2 : List Told, pre2.map toldOf = pre.map tdOf ∧ Jx pre2 W')
    (fun s W1 W2 ⟨q, k0, k1, k2, k3⟩ hb => ⟨q, k0, hJ _ _ _ k1 (hb.mono (by omega)), k2.below hb (by omega), k3.trans (hb.mono (by omega))⟩)
    (fun c s W1 W2 ⟨hc, q, k0, k1⟩ hb => ⟨hc, q, k0, hJx _ _ _ k1 (hb.mono (by omega))⟩)
    ⟨[], rfl, hJ _ _ _ h0 S12, b12, Below.refl _ _⟩
    (fun z a' W' => ∃ By, w2.heap.size + 1 < By ∧ Blk W' By 25 #[.int .i64 z.1.t.k, .int .u64 z.1.t.n, .string z.1.t.s, .slice z.1.A z.1.t.l.length z.1.cap] ∧ a' = { tmps := #[.func (.yield l) #[] #[], .pointer (some ⟨Bk, 0, none⟩), .pointer (some ⟨g, 0, none⟩), .int .i64 (z.1.d : Int), .pointer (some ⟨By, 0, none⟩), .agg #[.int .i64 x.k, .int .u64 x.n, .string x.s, .slice A x.l.length cap], .func (.func 27) #[] #[.pointer (some ⟨g + 1, 0, none⟩)], .int .i64 (z.1.d : Int), vI z.1.t z.1.A z.1.cap, undef, undef, undef, undef, undef, undef], defers := [] })
    (fun z a' W' o ⟨By, hBy, kB, ha⟩ => ⟨By, hBy, kB.putFar (by omega) o, ha⟩) ?assign ?body ?done ?stop
  case assign =>
    intro l2 pre z W1 K hi _ _ hs hlen hK
    dsimp only [tdEnc, vI]
    obtain ⟨q, k0, k1, k2, k3⟩ := hi
    have T6 := below_alloc W1 (.cells #[.int .i64 z.1.t.k, .int .u64 z.1.t.n, .string z.1.t.s, .slice z.1.A z.1.t.l.length z.1.cap] 25)
    have B6 := Blk.fresh W1 25 #[.int .i64 z.1.t.k, .int .u64 z.1.t.n, .string z.1.t.s, .slice z.1.A z.1.t.l.length z.1.cap]
    gi_wp2
    exact hK _ _ (Rs.of_below T6 (by omega) _) ⟨q, k0, HJ.out _ _ _ k1 (T6.mono (by omega)), k2.on T6, k3.trans (T6.mono (by omega))⟩ ⟨W1.heap.size, by omega, B6, rfl⟩
  case body =>
    rintro l2 pre z a' W1 ⟨q, k0, k1, k2, k3⟩ hG ⟨By, hBy, kB, rfl⟩ hs hlen
    obtain ⟨y0, y1, y2, y3, -⟩ := iblk kB
    have hcell : W1.cell? ⟨g, 0, none⟩ = some (.func (.yield l) #[] #[]) := by rw [k2.cell]; rfl
    have C := fun W' (hb : Below W1.heap.size W1 W') => item_Copy z.1.t z.1.A z.1.cap n W' (Nat.le_trans (It.items_count x 1 _ z.2.2) hc) (Nat.le_trans (by omega) hb.size) (z.2.1.keep (k3.trans (hb.mono (by omega))))
    have HC := Lib.hid C
    have hq : q.length = pre.length := by have := congrArg List.length k0; simpa using this
    have HYB := Lib.hid (fun A' c' W' (hb : Below W1.heap.size W1 W') (hat : OkT g ⟨z.1.d, z.1.t, A', c'⟩ W') => (HY.out q ⟨z.1.d, z.1.t, A', c'⟩ W' (HJ.out _ _ _ k1 (hb.mono (by omega))) (by
      rw [List.map_append, k0]
      simpa [toldOf, tdOf] using hG) hat (Nat.le_trans (by omega) hb.size) (by omega)).mono (R' := fun e W2 => ∃ b : Bool, e = .returned (.bool b) ∧ RowKit.Hid ((b = true → J (q ++ [⟨z.1.d, z.1.t, A', c'⟩]) W2) ∧ (b = false → Jx (q ++ [⟨z.1.d, z.1.t, A', c'⟩]) W2)) ∧ RowKit.Hid (Rs n g W' W2)) (by
        rintro e W2 (⟨rfl, h1, h2⟩ | ⟨rfl, h1, h2⟩)
        · exact ⟨true, rfl, Lib.hid ⟨fun _ => h1, fun h => (by cases h)⟩, Lib.hid h2⟩
        · exact ⟨false, rfl, Lib.hid ⟨fun h => (by cases h), fun _ => h1⟩, Lib.hid h2⟩))
    have HK0 := Lib.hid k0
    have HK2 := Lib.hid k2
    have HK3 := Lib.hid k3
    have hd0 : Below W1.heap.size W1 W1.drew := (Below.refl _ _).drew
    have HD0 := Lib.hid hd0
    have HGL := Lib.hid (show g < W1.heap.size by omega)
    simp only [vI] at HC
    simp only [toldV, vI] at HYB
    clear C hq k0 k1 k2 k3 kB hG hd0
    have hgw : g + 4 ≤ W1.heap.size := by omega
    gi_wp2
    have hfol : Try.prog.follows Departure.mixedOrders = true := by kernel_rfl
    gi_region_with_o (first | (refine ⟨trivial, rfl, ?_⟩; gi_at_call 19; refine (CallsIn.inRound l2 (callsIn_wide.2 (HC.out _ HD0.out))).mono ?_; rintro e w5 ⟨A', c', rfl, hcp, hb5⟩; have hb5' := HD0.out.trans hb5; have hcell5 := (hb5'.cell (p := ⟨g, 0, none⟩) HGL.out).trans hcell; obtain ⟨fn, tmps, asg, bdy, hy, hR⟩ := HYB.out A' c' w5 hb5' ⟨hcp.1, hcp.2.1, hcp.at.more fun _ h => Nat.le_trans (by omega) (Nat.le_trans HD0.out.size h)⟩; have HR := Lib.hid hR; have HB5 := Lib.hid hb5'; clear hR hcp hb5 hb5') | (refine ⟨rfl, RoundIn.mono (F := Fence.wide.inRound l2) HR.out ?_⟩; rintro e w6 ⟨bb, rfl, HQ1, HQ2⟩))
    all_goals
      have hr : Rs n g W1 w6 := (Rs.of_below HB5.out (by omega) g).trans HQ2.out
      have hpre : (q ++ [(⟨z.1.d, z.1.t, A', c'⟩ : Told)]).map toldOf = (pre ++ [z]).map tdOf := by
        rw [List.map_append, List.map_append, HK0.out]
        rfl
      have hgk : Blk w6 g 44 #[.func (.yield l) #[] #[]] := (hr.high g (Nat.le_refl _) HGL.out).trans HK2.out
      have hlow := HK3.out.trans hr.low
      have HRR := Lib.hid hr
      have HPRE := Lib.hid hpre
      have HGK := Lib.hid hgk
      have HLOW := Lib.hid hlow
      clear hr hpre hgk hlow hcell5 hcell y0 y1 y2 y3 hy
      cases bb
    all_goals gi_wp2
    all_goals first
      | exact ⟨HRR.out.more (by omega), rfl, _, HPRE.out, HQ1.out.2 (by simp)⟩
      | exact ⟨HRR.out.more (by omega), _, HPRE.out, HQ1.out.1 (by simp), HGK.out, HLOW.out⟩
  case done =>
    rintro xs W' hs hx ⟨q, k0, k1, k2, k3⟩ hK
    have HK0 := Lib.hid k0
    have HK1 := Lib.hid k1
    have HX := Lib.hid hx
    clear k0 k1 hx
    gi_wp2
    refine ⟨by simp, .inl ⟨_, _, rfl, run_takeDeferred hK, ?_⟩⟩
    exact ⟨_, results_none rfl _ _ _, ⟨_, rfl⟩, .inl ⟨q, HK0.out.trans HX.out, HJ.out _ _ _ HK1.out (put_below W' _ (Below.refl g W') (by omega) (by omega))⟩⟩
  case stop =>
    rintro c pre W' hs hpx ⟨rfl, q, k0, k1⟩ hK
    have HK0 := Lib.hid k0
    have HK1 := Lib.hid k1
    clear k0 k1
    gi_wp2
    refine ⟨by simp, .inl ⟨_, _, rfl, run_takeDeferred hK, ?_⟩⟩
    exact ⟨_, results_none rfl _ _ _, ⟨_, rfl⟩, .inr ⟨q, by rw [HK0.out]; exact hpx, HJX.out _ _ _ HK1.out (put_below W' _ (Below.refl g W') (by omega) (by omega))⟩⟩
theorem all_seq (x : It) (A : Option Addr) (cap n Bk : Nat) (w : World) (hc : x.count ≤ 1099511627775) (hn : n ≤ w.heap.size) (hb : Blk w Bk 25 #[.int .i64 x.k, .int .u64 x.n, .string x.s, .slice A x.l.length cap]) (h : AtB w n x A cap) :
    SeqG Try.prog 21 #[.pointer (some ⟨Bk, 0, none⟩)] toldV (fun pre => pre.map toldOf <+: x.items 1) OkT n (fun xs => xs.map toldOf = x.items 1) (fun pre => pre.map toldOf <+: x.items 1) x.count w := fun l J Jx W hW hJ hJx hY h0 =>
  all_in x A cap n Bk l W hc (Nat.le_trans hn hW.size) (hb.on hW) (h.keep (hW.mono hn)) J Jx hJ hJx hY h0
end Go.Proofs.Ytbecflehidcbdaa
