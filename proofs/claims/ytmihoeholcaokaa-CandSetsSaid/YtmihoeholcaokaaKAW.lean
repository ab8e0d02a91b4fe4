/- Package item: walk; Depth, Size. -/
import Derived.Test.YtmihoeholcaokaaKAV
namespace Go.Proofs.Ytmihoeholcaokaa
open Go.RowKit Go.Shelf
attribute [local go_sem] Oper.semAt_some

theorem item_walk (x : It) (A : Option Addr) (cap : Nat) (w : World) :
    Calls Try.prog 39 #[vI x A cap] w fun e w' => e = .returned (.func (.func 43) #[] #[.pointer (some ⟨w.heap.size, 0, none⟩)]) ∧ w' = w.alloc (.cells #[.int .i64 x.k, .int .u64 x.n, .string x.s, .slice A x.l.length cap] 39) := by
  unfold vI
  go_enter Try.func39, Try.ntmps39
  go_wp2
  go_ret
  exact ⟨rfl, rfl⟩
/-- What walk hands back, as a loop meets it. -/
theorem walk_seqG (x : It) (A : Option Addr) (cap n Bx : Nat) (w : World) (hc : x.count ≤ 1099511627775) (hn : n ≤ w.heap.size) (hb : Blk w Bx 39 #[.int .i64 x.k, .int .u64 x.n, .string x.s, .slice A x.l.length cap]) (h : AtB w n x A cap) :
    SeqG Try.prog 43 #[.pointer (some ⟨Bx, 0, none⟩)] (fun z : TD w n x => tdEnc z) (fun pre => pre.map tdOf <+: x.items 1) (fun _ _ _ => True) n (fun xs => xs.map tdOf = x.items 1) (fun pre => pre.map tdOf <+: x.items 1) x.count w := fun l J Jx W hW hJ _ hY h0 =>
  walks_in x A cap n Bx l w W hc (Nat.le_trans hn hW.size) (hb.on hW) h (hW.mono hn) J Jx hJ (fun pre z W1 h1 h2 h3 h4 => (hY pre z W1 h1 h2 trivial h3 h4).mono fun _ _ h => h.imp id fun h => ⟨h.1, h.2.1⟩) h0
theorem walk_seq (x : It) (A : Option Addr) (cap n Bx : Nat) (w : World) (hc : x.count ≤ 1099511627775) (hn : n ≤ w.heap.size) (hb : Blk w Bx 39 #[.int .i64 x.k, .int .u64 x.n, .string x.s, .slice A x.l.length cap]) (h : AtB w n x A cap) :
    Seq Try.prog 43 #[.pointer (some ⟨Bx, 0, none⟩)] (fun z : TD w n x => tdEnc z) n (fun xs => xs.map tdOf = x.items 1) (fun pre => pre.map tdOf <+: x.items 1) x.count w := fun l J Jx W hW hJ _ hY h0 =>
  walks_in x A cap n Bx l w W hc (Nat.le_trans hn hW.size) (hb.on hW) h (hW.mono hn) J Jx hJ (fun pre z W1 h1 _ h3 h4 => (hY pre z W1 h1 trivial trivial h3 h4).mono fun _ _ h => h.imp id fun h => ⟨h.1, h.2.1⟩) h0
theorem td_size {w : World} {n : Nat} {X0 : It} (z : TD w n X0) : (tdEnc z).size = 2 := rfl

/-- The greatest depth that has been told. -/
def tdMax {w : World} {n : Nat} {X0 : It} (pre : List (TD w n X0)) : Nat := mostOf (pre.map fun z => z.1.d)
theorem tdMax_snoc {w : World} {n : Nat} {X0 : It} (pre : List (TD w n X0)) (z : TD w n X0) : tdMax (pre ++ [z]) = max (tdMax pre) z.1.d := by
  unfold tdMax
  rw [List.map_append, List.map_cons, List.map_nil, mostOf_snoc]
theorem tdMax_all {w : World} {n : Nat} {X0 : It} {xs : List (TD w n X0)} {x : It} (h : xs.map tdOf = x.items 1) : tdMax xs = x.depth := by
  unfold tdMax It.depth
  rw [← h, List.map_map]
  rfl

end Go.Proofs.Ytmihoeholcaokaa

/- Package item: Check, whatever checkOne tells. -/
namespace Go.Proofs.Ytmihoeholcaokaa
open Go.RowKit Go.Shelf
attribute [local go_sem] Oper.semAt_some

theorem alloc3 (w : World) (t1 t2 t3 : TypeId) (a b c : Array Value) : ∃ w3, ((w.alloc (.cells a t1)).alloc (.cells b t2)).alloc (.cells c t3) = w3 ∧ Blk w3 w.heap.size t1 a ∧ Blk w3 (w.heap.size + 1) t2 b ∧ Blk w3 (w.heap.size + 2) t3 c ∧ Below w.heap.size w w3 ∧ w3.heap.size = w.heap.size + 3 := by
  have h1 : (w.alloc (.cells a t1)).heap.size = w.heap.size + 1 := by simp
  have h2 : ((w.alloc (.cells a t1)).alloc (.cells b t2)).heap.size = w.heap.size + 2 := by simp
  refine ⟨_, rfl, ((Blk.fresh w t1 a).alloc _).alloc _, ?_, ?_, ((below_alloc w _).alloc (by omega) _).alloc (by omega) _, by simp⟩
  · have := Blk.fresh (w.alloc (.cells a t1)) t2 b
    rw [h1] at this
    exact this.alloc _
  · have := Blk.fresh ((w.alloc (.cells a t1)).alloc (.cells b t2)) t3 c
    rwa [h2] at this
theorem alloc1 (w : World) (t1 : TypeId) (a : Array Value) : ∃ w1, w.alloc (.cells a t1) = w1 ∧ Blk w1 w.heap.size t1 a ∧ Below w.heap.size w w1 ∧ w1.heap.size = w.heap.size + 1 := ⟨_, rfl, Blk.fresh w t1 a, below_alloc w _, by simp⟩
theorem put_below {g D : Nat} {w : World} (W : World) (o : Obj) (hk : Below g w W) (hg : g ≤ D) (hD : D < W.heap.size) : Below g w (W.putObj D o) := hk.trans (Rs.put (n := g) (B := D + 1) W o hg hD (by omega)).low
theorem Blk.putFar {w : World} {g D : Nat} {t : TypeId} {cs : Array Value} (h : Blk w g t cs) (hD : g ≠ D) (o : Obj) : Blk (w.putObj D o) g t cs := (World.putObj_heap_other hD).trans h

def allD {w : World} {n : Nat} {X0 : It} (pre : List (TD w n X0)) : Prop := ∀ z ∈ pre, z.1.d ≤ 64
def someD {w : World} {n : Nat} {X0 : It} (pre : List (TD w n X0)) : Prop := ∃ z ∈ pre, 64 < z.1.d
def allE (err : It → Int) {w : World} {n : Nat} {X0 : It} (pre : List (TD w n X0)) : Prop := ∀ z ∈ pre, err z.1.t = 0
def someE (err : It → Int) {w : World} {n : Nat} {X0 : It} (pre : List (TD w n X0)) (r : Int) : Prop := ∃ q z, pre = q ++ [z] ∧ allE err q ∧ err z.1.t = r ∧ r ≠ 0
theorem allD_snoc {w : World} {n : Nat} {X0 : It} {pre : List (TD w n X0)} {z : TD w n X0} (h : allD pre) (hz : z.1.d ≤ 64) : allD (pre ++ [z]) := fun y hy => by
  rcases List.mem_append.1 hy with hy | hy
  · exact h y hy
  · rw [List.mem_singleton] at hy; rw [hy]; exact hz
theorem allE_snoc {err : It → Int} {w : World} {n : Nat} {X0 : It} {pre : List (TD w n X0)} {z : TD w n X0} (h : allE err pre) (hz : err z.1.t = 0) : allE err (pre ++ [z]) := fun y hy => by
  rcases List.mem_append.1 hy with hy | hy
  · exact h y hy
  · rw [List.mem_singleton] at hy; rw [hy]; exact hz
theorem deep_no {w : World} {n : Nat} {X0 : It} {xs : List (TD w n X0)} {x : It} (hx : xs.map tdOf = x.items 1) (h : allD xs) : x.depth ≤ 64 := by
  unfold It.depth
  refine mostOf_le fun d hd => ?_
  rw [← hx, List.map_map] at hd
  obtain ⟨z, hz, rfl⟩ := List.mem_map.1 hd
  exact h z hz
theorem deep_yes {w : World} {n : Nat} {X0 : It} {pre : List (TD w n X0)} {x : It} (hx : pre.map tdOf <+: x.items 1) (h : someD pre) : 64 < x.depth := by
  obtain ⟨z, hz, hd⟩ := h
  have h1 : tdOf z ∈ x.items 1 := hx.subset (List.mem_map_of_mem hz)
  have h2 : z.1.d ≤ x.depth := le_mostOf (List.mem_map_of_mem (f := fun p : Nat × It => p.1) h1)
  omega
theorem err_no {err : It → Int} {w : World} {n : Nat} {X0 : It} {xs : List (TD w n X0)} {x : It} (hx : xs.map tdOf = x.items 1) (h : allE err xs) : firstErr ((x.items 1).map fun p => err p.2) = 0 := by
  refine firstErr_all fun e he => ?_
  rw [← hx, List.map_map] at he
  obtain ⟨z, hz, rfl⟩ := List.mem_map.1 he
  exact h z hz
theorem err_yes {err : It → Int} {w : World} {n : Nat} {X0 : It} {pre : List (TD w n X0)} {x : It} {r : Int} (hx : pre.map tdOf <+: x.items 1) (h : someE err pre r) : firstErr ((x.items 1).map fun p => err p.2) = r := by
  obtain ⟨q, z, rfl, hq, hr, hne⟩ := h
  obtain ⟨rest, hrest⟩ := hx
  rw [← hrest]
  have e : (((q ++ [z]).map tdOf ++ rest).map fun p => err p.2) = (q.map fun y => err y.1.t) ++ r :: rest.map fun p => err p.2 := by
    rw [← hr]
    simp [tdOf, Function.comp_def]
  rw [e]
  refine firstErr_at (fun e he => ?_) hne
  obtain ⟨y, hy, rfl⟩ := List.mem_map.1 he
  exact hq y hy
/-- What Check answers. -/
def checkR (err : It → Int) (x : It) : Int := if 64 < x.depth then 3 else firstErr ((x.items 1).map fun p => err p.2)

set_option maxRecDepth 100000 in
set_option maxHeartbeats 4000000 in
theorem item_Check (x : It) (A : Option Addr) (cap n : Nat) (w : World) (err : It → Int) (hc : x.count ≤ 1099511627775) (hn : n ≤ w.heap.size) (h : AtB w n x A cap)
    (hone : ∀ (d : Nat) (t : It) (A : Option Addr) (cap : Nat) (W : World), (d, t) ∈ x.items 1 → n ≤ W.heap.size → AtB W n t A cap → Calls Try.prog 40 #[vI t A cap] W fun e w' => e = .returned (.int .i64 (err t)) ∧ Below W.heap.size W w') :
    Calls Try.prog 33 #[vI x A cap] w fun e w' => e = .returned (.int .i64 (checkR err x)) ∧ Below w.heap.size w w' := by
  have HWK := fun w => item_walk x A cap w
  have HONE := Lib.hid hone
  have hres1 : 64 < x.depth → checkR err x = 3 := fun h => by unfold checkR; rw [if_pos h]
  have hres2 : x.depth ≤ 64 → checkR err x = firstErr ((x.items 1).map fun p => err p.2) := fun h => by unfold checkR; rw [if_neg (by omega)]
  obtain ⟨res, hres⟩ : ∃ res, checkR err x = res := ⟨_, rfl⟩
  rw [hres] at hres1 hres2 ⊢
  have HR1 := Lib.hid hres1
  have HR2 := Lib.hid hres2
  clear hone hres hres1 hres2
  simp only [vI] at HWK ⊢
  refine (callsIn_wide (n := 0)).1 ?_
  refine callsIn_of_wp_marks Try.func33 rfl trivial ?_ rfl
  simp only [Try.ntmps33, List.size_toArray, List.length_cons, List.length_nil, Nat.reduceAdd, Nat.reduceSub, Array.replicate_succ, Array.replicate_zero, List.push_toArray, List.append_toArray, List.nil_append, List.cons_append]
  gi_wp2_with (refine ⟨trivial, rfl, ?_⟩; gi_at_call 39; refine (callsIn_wide.2 (HWK _)).mono ?_; rintro e w' ⟨rfl, rfl⟩)
  obtain ⟨w3, hw3, b1, b2, b3, S, hz⟩ := alloc3 w 39 62 39 #[.int .i64 x.k, .int .u64 x.n, .string x.s, .slice A x.l.length cap] #[.int .i64 0] #[.int .i64 x.k, .int .u64 x.n, .string x.s, .slice A x.l.length cap]
  rw [hw3]
  clear hw3
  obtain ⟨g, hg⟩ : ∃ g, w.heap.size = g := ⟨_, rfl⟩
  rw [hg] at b1 b2 b3 S hz hn ⊢
  have HHH := Lib.hid h
  refine wp_range (gf := 43) (lb := #[.pointer (some ⟨g + 1 + 1, 0, none⟩)]) rfl (enters_of Try.func43 (by kernel_rfl) rfl)
    (walk_seq x A cap n (g + 2) w3 hc (by omega) b3 (h.keep (S.mono hn))) (Below.refl _ _) (by omega) td_size
    (fun pre W => (allD pre ∧ Blk W g 39 #[.int .i64 x.k, .int .u64 x.n, .string x.s, .slice A x.l.length cap]) ∧ Blk W (g + 1) 62 #[.int .i64 0] ∧ Below g w W)
    (fun c pre W => (c = .ret ∧ someD pre) ∧ Blk W (g + 1) 62 #[.int .i64 3] ∧ Below g w W)
    (fun s W1 W2 ⟨k0, k1, k2⟩ hb => ⟨⟨k0.1, k0.2.below hb (by omega)⟩, k1.below hb (by omega), k2.trans (hb.mono (by omega))⟩) (fun _ s W1 W2 ⟨k0, k1, k2⟩ hb => ⟨k0, k1.below hb (by omega), k2.trans (hb.mono (by omega))⟩) ⟨⟨(fun z hz => by cases hz), b1⟩, b2, S⟩
    (fun z a' _ => a' = { tmps := #[.agg #[.int .i64 x.k, .int .u64 x.n, .string x.s, .slice A x.l.length cap], .pointer (some ⟨g, 0, none⟩), .pointer (some ⟨g + 1, 0, none⟩), .int .i64 (z.1.d : Int), undef, undef, undef, .agg #[.int .i64 x.k, .int .u64 x.n, .string x.s, .slice A x.l.length cap], .func (.func 43) #[] #[.pointer (some ⟨g + 1 + 1, 0, none⟩)], .int .i64 (z.1.d : Int), vI z.1.t z.1.A z.1.cap, undef, undef, undef, undef, undef, undef, undef, undef, undef, undef, undef], defers := [] }) (fun _ _ _ _ ha => ha) ?assign ?body ?done ?stop
  case assign =>
    intro l pre z W K hi hs hlen hK
    dsimp only [tdEnc]
    gi_wp2
    exact hK _ _ (Rs.refl _ _ _) hi (by simp)
  case body =>
    rintro l pre z a' W ⟨k0, k1, k2⟩ rfl hs hlen
    have hcell : W.cell? ⟨g + 1, 0, none⟩ = some (.int .i64 0) := by rw [k1.cell]; rfl
    have hfr := k1.free 0
    obtain ⟨dz, hdz⟩ : ∃ dz, z.1.d = dz := ⟨_, rfl⟩
    have HDZ := Lib.hid hdz
    rw [hdz]
    clear hdz
    have HK0 := Lib.hid k0
    clear k0
    by_cases hd : (64 : Int) < dz
    · gi_wp2
      exact ⟨Rs.set W _ (by omega) (by omega), ⟨rfl, z, by simp, by rw [HDZ.out]; omega⟩, by have := k1.put 0 (.int .i64 3); simpa using this, k2.setCell (p := ⟨g + 1, 0, none⟩) (by show g ≤ g + 1; omega) _⟩
    · gi_wp2
      exact ⟨Rs.refl _ _ _, ⟨allD_snoc HK0.out.1 (by rw [HDZ.out]; omega), HK0.out.2⟩, k1, k2⟩
  case stop =>
    rintro c pre W hs hpx ⟨⟨rfl, hd⟩, k1, k2⟩ hK
    have hr := HR1.out (deep_yes hpx hd)
    subst hr
    rw [hz] at hK hs
    have hc5 : (W.putObj (g + 3) (.deferred none)).cell? ⟨g + 1, 0, none⟩ = some (.int .i64 3) := by rw [(k1.putFar (by omega) _).cell]; rfl
    have hend := put_below W (.deferred none) k2 (show g ≤ g + 3 by omega) (by omega)
    clear hd k1
    gi_wp2
    refine ⟨by simp, .inl ⟨_, _, rfl, run_takeDeferred hK, ?_⟩⟩
    refine ⟨.int .i64 3, ?_, rfl, hend⟩
    simp [results, Try.f33, go_sem, hc5]
  case done =>
    rintro xs W hs hx ⟨⟨k0, kb⟩, k1, k2⟩ hK
    obtain ⟨q0, q1, q2, q3, -⟩ := iblk kb
    have hr := HR2.out (deep_no hx k0)
    rw [hz] at hK hs
    clear k0 hx
    gi_wp2_with (refine ⟨trivial, rfl, ?_⟩; gi_at_call 39; refine (callsIn_wide.2 (HWK _)).mono ?_; rintro e w' ⟨rfl, rfl⟩)
    obtain ⟨w5, hw5, d1, T, hz5⟩ := alloc1 W 39 #[.int .i64 x.k, .int .u64 x.n, .string x.s, .slice A x.l.length cap]
    rw [hw5]
    clear hw5
    have kb5 := kb.on T
    have k15 := k1.on T
    have hK5 := (T.block (g + 3) (by omega)).trans hK
    have S5 := k2.trans (T.mono (by omega))
    obtain ⟨G, hG⟩ : ∃ G, W.heap.size = G := ⟨_, rfl⟩
    rw [hG] at d1 T hz5 hs ⊢
    clear kb k1 hK q0 q1 q2 q3
    refine wp_range (gf := 43) (lb := #[.pointer (some ⟨G, 0, none⟩)]) rfl (enters_of Try.func43 (by kernel_rfl) rfl)
      (walk_seq x A cap n G w5 hc (by omega) d1 (HHH.out.keep (S5.mono hn))) (Below.refl _ _) (by omega) td_size
      (fun pre W => allE err pre ∧ Blk W (g + 1) 62 #[.int .i64 0] ∧ W.heap[g + 3]? = some (.deferred (some [])) ∧ Below g w W)
      (fun c pre W => c = .ret ∧ (∃ r, someE err pre r ∧ Blk W (g + 1) 62 #[.int .i64 r]) ∧ W.heap[g + 3]? = some (.deferred (some [])) ∧ Below g w W)
      (fun s W1 W2 ⟨k0, k1, k3, k2⟩ hb => ⟨k0, k1.below hb (by omega), (hb.block _ (by omega)).trans k3, k2.trans (hb.mono (by omega))⟩)
      (fun _ s W1 W2 ⟨k0, ⟨r, kr, k1⟩, k3, k2⟩ hb => ⟨k0, ⟨r, kr, k1.below hb (by omega)⟩, (hb.block _ (by omega)).trans k3, k2.trans (hb.mono (by omega))⟩) ⟨(fun z hz => by cases hz), k15, hK5, S5⟩
      (fun z a' W' => ∃ By, w5.heap.size + 1 < By ∧ Blk W' By 39 #[.int .i64 z.1.t.k, .int .u64 z.1.t.n, .string z.1.t.s, .slice z.1.A z.1.t.l.length z.1.cap] ∧ a' = { tmps := #[.agg #[.int .i64 x.k, .int .u64 x.n, .string x.s, .slice A x.l.length cap], .pointer (some ⟨g, 0, none⟩), .pointer (some ⟨g + 1, 0, none⟩), undef, undef, .pointer (some ⟨By, 0, none⟩), undef, .agg #[.int .i64 x.k, .int .u64 x.n, .string x.s, .slice A x.l.length cap], .func (.func 43) #[] #[.pointer (some ⟨g + 1 + 1, 0, none⟩)], undef, undef, undef, undef, .agg #[.int .i64 x.k, .int .u64 x.n, .string x.s, .slice A x.l.length cap], .func (.func 43) #[] #[.pointer (some ⟨G, 0, none⟩)], .int .i64 (z.1.d : Int), vI z.1.t z.1.A z.1.cap, undef, undef, undef, undef, undef], defers := [] })
      (fun z a' W' o ⟨By, hBy, kB, ha⟩ => ⟨By, hBy, kB.putFar (by omega) o, ha⟩) ?assign ?body ?done ?stop
    case assign =>
      intro l pre z W K hi hs hlen hK
      dsimp only [tdEnc, vI]
      obtain ⟨k0, k1, k3, k2⟩ := hi
      have T6 := below_alloc W (.cells #[.int .i64 z.1.t.k, .int .u64 z.1.t.n, .string z.1.t.s, .slice z.1.A z.1.t.l.length z.1.cap] 39)
      have B6 := Blk.fresh W 39 #[.int .i64 z.1.t.k, .int .u64 z.1.t.n, .string z.1.t.s, .slice z.1.A z.1.t.l.length z.1.cap]
      gi_wp2
      exact hK _ _ (Rs.of_below T6 (by omega) _) ⟨k0, k1.on T6, (T6.block _ (by omega)).trans k3, k2.trans (T6.mono (by omega))⟩ ⟨W.heap.size, by omega, B6, rfl⟩
    case body =>
      rintro l pre z a' W ⟨k0, k1, k3, k2⟩ ⟨By, hBy, kB, rfl⟩ hs hlen
      obtain ⟨y0, y1, y2, y3, -⟩ := iblk kB
      have hcell : W.cell? ⟨g + 1, 0, none⟩ = some (.int .i64 0) := by rw [k1.cell]; rfl
      have hfr := k1.free 0
      have C := HONE.out z.1.d z.1.t z.1.A z.1.cap W z.2.2 (by omega) ((z.2.1.back (S5.mono hn)).keep (k2.mono hn))
      obtain ⟨r, hr⟩ : ∃ r, err z.1.t = r := ⟨_, rfl⟩
      rw [hr] at C
      have HK0 := Lib.hid k0
      have HER := Lib.hid hr
      simp only [vI] at C
      clear k0 hr
      have hst : W.heap.size ≤ W.heap.size := Nat.le_refl _
      by_cases h0 : r = 0
      · subst h0
        gi_wp2_with (refine ⟨trivial, rfl, ?_⟩; gi_at_call 40; refine (CallsIn.inRound l (callsIn_wide.2 C)).mono ?_; rintro e w' ⟨rfl, hb⟩; have HB := Lib.hid hb; clear hb)
        have hb := HB.out
        exact ⟨Rs.of_below hb (by omega) _, allE_snoc HK0.out HER.out, k1.on hb, (hb.block _ (by omega)).trans k3, k2.trans (hb.mono (by omega))⟩
      · have hrb : (r != 0) = true := by simp [h0]
        have H0 := Lib.hid h0
        clear h0
        gi_wp2_with (refine ⟨trivial, rfl, ?_⟩; gi_at_call 40; refine (CallsIn.inRound l (callsIn_wide.2 C)).mono ?_; rintro e w' ⟨rfl, hb⟩; have kx := k1.on hb; have hcell' : w'.cell? ⟨g + 1, 0, none⟩ = some (.int .i64 0) := (by rw [kx.cell]; rfl); have hfr' := kx.free 0; have HB := Lib.hid hb; have KX := Lib.hid kx; clear hb kx)
        have hb := HB.out
        have hsz := hb.size
        refine ⟨(Rs.of_below hb (by omega) _).trans (Rs.set w' _ (by omega) (by omega)), rfl, ⟨r, ⟨pre, z, rfl, HK0.out, HER.out, H0.out⟩, by have := KX.out.put 0 (.int .i64 r); simpa using this⟩, ?_, (k2.trans (hb.mono (by omega))).setCell (p := ⟨g + 1, 0, none⟩) (by show g ≤ g + 1; omega) _⟩
        exact (Below.heap_setCell w' ⟨g + 1, 0, none⟩ _ (g + 3) (by show g + 3 ≠ g + 1; omega)).trans ((hb.block _ (by omega)).trans k3)
    case done =>
      rintro xs W hs hx ⟨k0, k1, k3, k2⟩ hK
      have hcell : W.cell? ⟨g + 1, 0, none⟩ = some (.int .i64 0) := by rw [k1.cell]; rfl
      have hfr := k1.free 0
      rw [hz5] at hK hs
      have hne := err_no hx k0
      rw [← hr] at hne
      subst hne
      clear k0 hx hr
      have e1 := (Below.heap_setCell W ⟨g + 1, 0, none⟩ (.int .i64 0) (G + 1) (by show G + 1 ≠ g + 1; omega)).trans hK
      have e2 := (Below.heap_setCell W ⟨g + 1, 0, none⟩ (.int .i64 0) (g + 3) (by show g + 3 ≠ g + 1; omega)).trans k3
      have e3 := k1.put 0 (.int .i64 0)
      have e4 := k2.setCell (p := ⟨g + 1, 0, none⟩) (by show g ≤ g + 1; omega) (.int .i64 0)
      have e5 : (W.setCell ⟨g + 1, 0, none⟩ (.int .i64 0)).heap.size = W.heap.size := by simp [World.setCell]
      obtain ⟨W6, hW6⟩ : ∃ W6, W.setCell ⟨g + 1, 0, none⟩ (.int .i64 0) = W6 := ⟨_, rfl⟩
      rw [hW6] at e1 e2 e3 e4 e5
      clear k1 k3 k2 hK
      gi_wp2
      clear hW6
      rw [hz5]
      refine ⟨by simp, .inl ⟨_, _, rfl, run_takeDeferred e1, ?_⟩⟩
      refine ⟨by simp, .inl ⟨_, _, rfl, run_takeDeferred ((World.putObj_heap_other (by omega)).trans e2), ?_⟩⟩
      have hend := put_below _ (.deferred none) (put_below W6 (.deferred none) e4 (show g ≤ G + 1 by omega) (by omega)) (show g ≤ g + 3 by omega) (by simp; omega)
      have hc5 : ((W6.putObj (G + 1) (.deferred none)).putObj (g + 3) (.deferred none)).cell? ⟨g + 1, 0, none⟩ = some (.int .i64 0) := by
        rw [((e3.putFar (by omega) _).putFar (by omega) _).cell]; rfl
      refine ⟨.int .i64 0, ?_, rfl, by rw [hg]; exact hend⟩
      simp [results, Try.f33, go_sem, hc5]
    case stop =>
      rintro c pre W hs hpx ⟨rfl, ⟨r, kr, k1⟩, k3, k2⟩ hK
      rw [hz5] at hK hs
      have hne := err_yes hpx kr
      rw [← hr] at hne
      subst hne
      clear kr hpx hr
      gi_wp2
      rw [hz5]
      refine ⟨by simp, .inl ⟨_, _, rfl, run_takeDeferred hK, ?_⟩⟩
      refine ⟨by simp, .inl ⟨_, _, rfl, run_takeDeferred ((World.putObj_heap_other (by omega)).trans k3), ?_⟩⟩
      have hend := put_below _ (.deferred none) (put_below W (.deferred none) k2 (show g ≤ G + 1 by omega) (by omega)) (show g ≤ g + 3 by omega) (by simp; omega)
      have hc5 : ((W.putObj (G + 1) (.deferred none)).putObj (g + 3) (.deferred none)).cell? ⟨g + 1, 0, none⟩ = some (.int .i64 res) := by
        rw [((k1.putFar (by omega) _).putFar (by omega) _).cell]; rfl
      refine ⟨.int .i64 res, ?_, rfl, by rw [hg]; exact hend⟩
      simp [results, Try.f33, go_sem, hc5]
end Go.Proofs.Ytmihoeholcaokaa
