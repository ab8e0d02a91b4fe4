/- Package item: walk; Depth, Size. -/
import Derived.Test.YtgcgidoikpbfpaaKAY
namespace Go.Proofs.Ytgcgidoikpbfpaa
open Go.RowKit Go.Shelf
attribute [local go_sem] Oper.semAt_some

theorem item_walk (x : It) (A : Option Addr) (cap : Nat) (w : World) :
    Calls Try.prog 18 #[vI x A cap] w fun e w' => e = .returned (.func (.func 21) #[] #[.pointer (some ⟨w.heap.size, 0, none⟩)]) ∧ w' = w.alloc (.cells #[.int .i64 x.k, .int .u64 x.n, .string x.s, .slice A x.l.length cap] 25) := by
  unfold vI
  go_enter Try.func18, Try.ntmps18
  go_wp2
  go_ret
  exact ⟨rfl, rfl⟩
/-- What walk hands back, as a loop meets it. -/
theorem walk_seqG (x : It) (A : Option Addr) (cap n Bx : Nat) (w : World) (hc : x.count ≤ 1099511627775) (hn : n ≤ w.heap.size) (hb : Blk w Bx 25 #[.int .i64 x.k, .int .u64 x.n, .string x.s, .slice A x.l.length cap]) (h : AtB w n x A cap) :
    SeqG Try.prog 21 #[.pointer (some ⟨Bx, 0, none⟩)] (fun z : TD w n x => tdEnc z) (fun pre => pre.map tdOf <+: x.items 1) (fun _ _ _ => True) n (fun xs => xs.map tdOf = x.items 1) (fun pre => pre.map tdOf <+: x.items 1) x.count w := fun l J Jx W hW hJ _ hY h0 =>
  walks_in x A cap n Bx l w W hc (Nat.le_trans hn hW.size) (hb.on hW) h (hW.mono hn) J Jx hJ (fun pre z W1 h1 h2 h3 h4 => (hY pre z W1 h1 h2 trivial h3 h4).mono fun _ _ h => h.imp id fun h => ⟨h.1, h.2.1⟩) h0
theorem walk_seq (x : It) (A : Option Addr) (cap n Bx : Nat) (w : World) (hc : x.count ≤ 1099511627775) (hn : n ≤ w.heap.size) (hb : Blk w Bx 25 #[.int .i64 x.k, .int .u64 x.n, .string x.s, .slice A x.l.length cap]) (h : AtB w n x A cap) :
    Seq Try.prog 21 #[.pointer (some ⟨Bx, 0, none⟩)] (fun z : TD w n x => tdEnc z) n (fun xs => xs.map tdOf = x.items 1) (fun pre => pre.map tdOf <+: x.items 1) x.count w := fun l J Jx W hW hJ _ hY h0 =>
  walks_in x A cap n Bx l w W hc (Nat.le_trans hn hW.size) (hb.on hW) h (hW.mono hn) J Jx hJ (fun pre z W1 h1 _ h3 h4 => (hY pre z W1 h1 trivial trivial h3 h4).mono fun _ _ h => h.imp id fun h => ⟨h.1, h.2.1⟩) h0
theorem td_size {w : World} {n : Nat} {X0 : It} (z : TD w n X0) : (tdEnc z).size = 2 := rfl

/-- The greatest depth that has been told. -/
def tdMax {w : World} {n : Nat} {X0 : It} (pre : List (TD w n X0)) : Nat := mostOf (pre.map fun z => z.1.d)
theorem tdMax_snoc {w : World} {n : Nat} {X0 : It} (pre : List (TD w n X0)) (z : TD w n X0) : tdMax (pre ++ [z]) = max (tdMax pre) z.1.d := by
  unfold tdMax
  rw [List.map_append, List.map_cons, List.map_nil, mostOf_snoc]
theorem tdMax_all {w : World} {n : Nat} {X0 : It} {xs : List (TD w n X0)} {x : It} (h : xs.map tdOf = x.items 1) : tdMax xs = x.depth := by
  unfold tdMax It.depth
  rw [← h, List.map_map]
  rfl

set_option maxRecDepth 100000 in
set_option maxHeartbeats 4000000 in
theorem item_Depth (x : It) (A : Option Addr) (cap n : Nat) (w : World) (hc : x.count ≤ 1099511627775) (hn : n ≤ w.heap.size) (h : AtB w n x A cap) :
    Calls Try.prog 14 #[vI x A cap] w fun e w' => e = .returned (.int .i64 (x.depth : Int)) ∧ Below w.heap.size w w' := by
  have HWK := fun w => item_walk x A cap w
  simp only [vI] at HWK ⊢
  refine (callsIn_wide (n := 0)).1 ?_
  refine callsIn_of_wp_marks Try.func14 rfl trivial ?_ rfl
  simp only [Try.ntmps14, List.size_toArray, List.length_cons, List.length_nil, Nat.reduceAdd, Nat.reduceSub, Array.replicate_succ, Array.replicate_zero, List.push_toArray, List.append_toArray, List.nil_append, List.cons_append]
  gi_wp2_with (refine ⟨trivial, rfl, ?_⟩; gi_at_call 18; refine (callsIn_wide.2 (HWK _)).mono ?_; rintro e w' ⟨rfl, rfl⟩)
  have b1 := Blk.fresh w 25 #[.int .i64 x.k, .int .u64 x.n, .string x.s, .slice A x.l.length cap]
  have S1 := below_alloc w (.cells #[.int .i64 x.k, .int .u64 x.n, .string x.s, .slice A x.l.length cap] 25)
  have hz1 : (w.alloc (.cells #[.int .i64 x.k, .int .u64 x.n, .string x.s, .slice A x.l.length cap] 25)).heap.size = w.heap.size + 1 := by simp
  generalize w.alloc (.cells #[.int .i64 x.k, .int .u64 x.n, .string x.s, .slice A x.l.length cap] 25) = w1 at *
  have b2 := Blk.fresh w1 3 #[.int .i64 0]
  have S2 := below_alloc w1 (.cells #[.int .i64 0] 3)
  have hz2 : (w1.alloc (.cells #[.int .i64 0] 3)).heap.size = w.heap.size + 2 := by simp [hz1]
  generalize w1.alloc (.cells #[.int .i64 0] 3) = w2 at *
  have b3 := Blk.fresh w2 25 #[.int .i64 x.k, .int .u64 x.n, .string x.s, .slice A x.l.length cap]
  have S3 := below_alloc w2 (.cells #[.int .i64 x.k, .int .u64 x.n, .string x.s, .slice A x.l.length cap] 25)
  have hz3 : (w2.alloc (.cells #[.int .i64 x.k, .int .u64 x.n, .string x.s, .slice A x.l.length cap] 25)).heap.size = w.heap.size + 3 := by simp [hz2]
  have b23 := b2.on S3
  have S := S1.trans ((S2.mono (by omega)).trans (S3.mono (by omega)))
  generalize w2.alloc (.cells #[.int .i64 x.k, .int .u64 x.n, .string x.s, .slice A x.l.length cap] 25) = w3 at *
  rw [hz1] at b23
  rw [hz2] at b3
  obtain ⟨g, hg⟩ : ∃ g, w.heap.size = g := ⟨_, rfl⟩
  rw [hg] at b23 b3 S hz3 hn ⊢
  clear b2 S1 S2 S3 hz1 hz2
  refine wp_range (gf := 21) (lb := #[.pointer (some ⟨g + 1 + 1, 0, none⟩)]) rfl (enters_of Try.func21 (by kernel_rfl) rfl)
    (walk_seq x A cap n (g + 2) w3 hc (by omega) b3 (h.keep (S.mono hn))) (Below.refl _ _) (by omega) td_size
    (fun pre W => Blk W (g + 1) 3 #[.int .i64 (tdMax pre : Int)] ∧ Below g w W) (fun _ _ _ => False)
    (fun s W1 W2 ⟨k1, k2⟩ hb => ⟨k1.below hb (by omega), k2.trans (hb.mono (by omega))⟩) (fun _ _ _ _ hf _ => hf) ⟨b23, S⟩
    (fun z a' _ => a' = { tmps := #[.agg #[.int .i64 x.k, .int .u64 x.n, .string x.s, .slice A x.l.length cap], .pointer (some ⟨g, 0, none⟩), .int .i64 0, .pointer (some ⟨g + 1, 0, none⟩), .int .i64 (z.1.d : Int), .agg #[.int .i64 x.k, .int .u64 x.n, .string x.s, .slice A x.l.length cap], .func (.func 21) #[] #[.pointer (some ⟨g + 1 + 1, 0, none⟩)], .int .i64 (z.1.d : Int), vI z.1.t z.1.A z.1.cap, undef, undef, undef, undef], defers := [] }) (fun _ _ _ _ ha => ha) ?assign ?body ?done ?stop
  case assign =>
    intro l pre z W K hi hs hlen hK
    dsimp only [tdEnc]
    gi_wp2
    exact hK _ _ (Rs.refl _ _ _) hi (by simp)
  case body =>
    rintro l pre z a' W ⟨k1, k2⟩ rfl hs hlen
    obtain ⟨a, ha⟩ : ∃ a, tdMax pre = a := ⟨_, rfl⟩
    rw [ha] at k1
    have hcell : W.cell? ⟨g + 1, 0, none⟩ = some (.int .i64 (a : Int)) := by rw [k1.cell]; rfl
    have hfr := k1.free 0
    have hn2 : tdMax (pre ++ [z]) = max a z.1.d := by rw [tdMax_snoc, ha]
    obtain ⟨dz, hdz⟩ : ∃ dz, z.1.d = dz := ⟨_, rfl⟩
    rw [hdz] at hn2 ⊢
    have HN2 := Lib.hid hn2
    clear hn2 hdz ha
    gi_wp2
    all_goals
      refine ⟨Rs.set W _ (by omega) (by omega), ?_, k2.setCell (p := ⟨g + 1, 0, none⟩) (by show g ≤ g + 1; omega) _⟩
      have h1 := HN2.out
    · have h2 := k1.put 0 (.int .i64 (dz : Int))
      rw [h1, show max a dz = dz by omega]
      simpa using h2
    · have h2 := k1.put 0 (.int .i64 (a : Int))
      rw [h1, show max a dz = a by omega]
      simpa using h2
  case done =>
    rintro xs W hs hx ⟨k1, k2⟩ hK
    have hmx : tdMax xs = x.depth := tdMax_all hx
    rw [hmx] at k1
    have hcell : W.cell? ⟨g + 1, 0, none⟩ = some (.int .i64 (x.depth : Int)) := by rw [k1.cell]; rfl
    gi_wp2
    refine ⟨by simp, .inl ⟨_, _, rfl, run_takeDeferred hK, ?_⟩⟩
    have hR : Rs g (w3.heap.size + 1) W (W.putObj w3.heap.size (.deferred none)) := Rs.put W _ (by omega) (by omega) (by omega)
    exact ⟨_, results_tmp rfl _ _ _, rfl, by rw [hg]; exact k2.trans hR.low⟩
  case stop =>
    rintro c pre W _ _ hf _
    exact hf.elim
end Go.Proofs.Ytgcgidoikpbfpaa
