/- Package denote: the rule of a node by itself. -/
import Derived.Test.YtjelgoeamaejmaaGreatKBJ
import Derived.Maps.OwnSet
import Derived.Maps.Views
namespace Go.Proofs.YtjelgoeamaejmaaGreat
open Go.RowKit

/-- A node of a number, of bytes, of a text. -/
def lone (k : Int) : Prop := k = 1 ∨ k = 2 ∨ k = 3
theorem den_alone (k lo hi : Int) (v : It) (l : List Int) (f : List Fl) (p : Pl) (t : It) (A : Option Addr) (cap : Nat) (w : World) (hk : lone k) (hn : 0 ≤ t.n) :
    Calls Tryz.prog 62 #[vN ⟨k, lo, hi, v, l, f⟩ p, vI t A cap] w fun e w' => e = .returned (.bool (loneR k lo hi t)) ∧ Below w.heap.size w w' := by
  rcases hk with rfl | rfl | rfl
  · exact den_alone1 lo hi v l f p t A cap w hn
  · exact den_alone2 lo hi v l f p t A cap w
  · exact den_alone3 lo hi v l f p t A cap w
set_option maxRecDepth 100000 in
set_option maxHeartbeats 1000000 in
/-- The rule, called. -/
theorem den_rule5 (k lo hi : Int) (v : It) (l : List Int) (f : List Fl) (p : Pl) (g : Nat) (q : Pt) (a : Int) (w : World) (hk : lone k) (hn : 0 ≤ q.x.n) (hb : Blk w g 47 (nc ⟨k, lo, hi, v, l, f⟩ p)) :
    Calls Tryz.prog 61 (#[vP q, .int .i64 a] ++ #[.pointer (some ⟨g, 0, none⟩)]) w fun e w' => e = .returned (.bool (loneR k lo hi q.x)) ∧ Below w.heap.size w w' := by
  obtain ⟨w1, hw1, b1, S⟩ := iblk1 w 77 #[.int .i64 q.x.k, .int .u64 q.x.n, .string q.x.s, .slice q.A q.x.l.length q.cap, .int .i64 q.it]
  have q0 := b1.cell 0
  have q1 := b1.cell 1
  have q2 := b1.cell 2
  have q3 := b1.cell 3
  have q4 := b1.cell 4
  have hb1 := hb.on S
  unfold nc at hb1
  obtain ⟨p0, p1, p2, p3, p4, p5, p6, p7, p8⟩ := nblk hb1
  have HA := Lib.hid (den_alone k lo hi v l f p q.x q.A q.cap w1 hk hn)
  have HS := Lib.hid S
  unfold vN vI at HA
  unfold vP
  dsimp only at *
  generalize loneR k lo hi q.x = res at *
  clear hb1 b1 S hb hk hn
  show Calls Tryz.prog 61 #[.agg #[.int .i64 q.x.k, .int .u64 q.x.n, .string q.x.s, .slice q.A q.x.l.length q.cap, .int .i64 q.it], .int .i64 a, .pointer (some ⟨g, 0, none⟩)] w _
  go_enter Tryz.func61, Tryz.ntmps61
  go_wp2_with (first
    | (go_at_call 62; refine HA.out.mono ?_; rintro e w2 ⟨rfl, hb2⟩; have HB2 := Lib.hid hb2; clear hb2)
    | fail)
  go_ret
  exact ⟨rfl, HS.out.trans (HB2.out.mono HS.out.size)⟩
set_option maxRecDepth 100000 in
set_option maxHeartbeats 1000000 in
/-- .. and made. -/
theorem den_ruleOf5 (k lo hi : Int) (v : It) (l : List Int) (f : List Fl) (p : Pl) (cm : Nat) (w : World) (hk : lone k) :
    Calls Tryz.prog 35 #[vN ⟨k, lo, hi, v, l, f⟩ p, standsV cm] w fun e w' => e = .returned (.func (.func 61) #[] #[.pointer (some ⟨w.heap.size, 0, none⟩)]) ∧ Blk w' w.heap.size 47 (nc ⟨k, lo, hi, v, l, f⟩ p) ∧ w.heap.size < w'.heap.size ∧ Below w.heap.size w w' := by
  have b1 := (Blk.fresh w 47 (nc ⟨k, lo, hi, v, l, f⟩ p)).alloc (.cells #[standsV cm] 59)
  have S : Below w.heap.size w ((w.alloc (.cells (nc ⟨k, lo, hi, v, l, f⟩ p) 47)).alloc (.cells #[standsV cm] 59)) := (below_alloc w _).alloc (by simp) _
  obtain ⟨w1, hw1⟩ : ∃ w1, (w.alloc (.cells (nc ⟨k, lo, hi, v, l, f⟩ p) 47)).alloc (.cells #[standsV cm] 59) = w1 := ⟨_, rfl⟩
  rw [hw1] at b1 S
  have HS := Lib.hid S
  have HB := Lib.hid b1
  unfold nc at b1 hw1
  obtain ⟨p0, p1, p2, p3, p4, p5, p6, p7, p8⟩ := nblk b1
  unfold vN
  unfold standsV at hw1 ⊢
  dsimp only at *
  have h6 : ¬ k = 6 := by rcases hk with rfl | rfl | rfl <;> decide
  have h7 : ¬ k = 7 := by rcases hk with rfl | rfl | rfl <;> decide
  have h8 : ¬ k = 8 := by rcases hk with rfl | rfl | rfl <;> decide
  have h9 : ¬ k = 9 := by rcases hk with rfl | rfl | rfl <;> decide
  have h10 : ¬ k = 10 := by rcases hk with rfl | rfl | rfl <;> decide
  clear b1 S hk
  go_enter Tryz.func35, Tryz.ntmps35
  go_wp2_with fail
  go_ret
  exact ⟨rfl, HB.out, HB.out.lt, HS.out⟩
/-- A node by itself, as the teller meets it. -/
theorem rule_lone {w0 : World} {xs : List Nd} {ps : List Pt} {node : Nat} {x : Nd} (p : Pl) (W : World) (B cm g n m : Nat) (R : Nat → Nat → Bool) (hk : lone x.k) (hr : ∀ a q, ps[a]? = some q → R node a = loneR x.k x.lo x.hi q.x ∧ 0 ≤ q.x.n) :
    Calls Tryz.prog 35 #[vN x p, standsV cm] W fun e W' => ∃ fid lb, e = .returned (.func (.func fid) #[] lb) ∧ (fid = 61 ∨ fid = 58 ∨ fid = 76) ∧ Rule w0 W W' B cm g n m node R ps fid lb ∧ Below W.heap.size W W' := by
  obtain ⟨k, lo, hi, v, l, f⟩ := x
  refine (den_ruleOf5 k lo hi v l f p cm W hk).mono ?_
  rintro e W' ⟨rfl, hb, hlt, hS⟩
  refine ⟨_, _, rfl, .inl rfl, ⟨fun W2 H a q hq _ _ hkeep => ?_⟩, hS⟩
  obtain ⟨h1, h2⟩ := hr a q hq
  rw [h1]
  exact den_rule5 k lo hi v l f p W.heap.size q a W2 hk h2 ((hkeep W.heap.size (Nat.le_refl _) hlt).trans hb)
end Go.Proofs.YtjelgoeamaejmaaGreat

/- Package denote: may, right, Matches: of a schema that is well-formed, an item that may be. -/
namespace Go.Proofs.YtjelgoeamaejmaaGreat
open Go.RowKit

theorem den_may (x : It) (A : Option Addr) (cap n : Nat) (w : World) (hx : okI 1048576 x) (hn : n ≤ w.heap.size) (h : AtB w n x A cap) (h0 : chI x = 0) :
    Calls Tryz.prog 36 #[vI x A cap] w fun e w' => e = .returned (.bool true) ∧ Below w.heap.size w w' := by
  obtain ⟨w1, hw1, b1, S⟩ := iblk1 w 28 #[.int .i64 x.k, .int .u64 x.n, .string x.s, .slice A x.l.length cap]
  obtain ⟨p0, p1, p2, p3, -⟩ := iblk b1
  have HC := Lib.hid (item_CheckW x A cap n w1 hx (Nat.le_trans hn S.size) (h.keep (S.mono hn)))
  have HS := Lib.hid S
  change Hid (Calls _ _ _ _ fun e w' => e = .returned (.int .i64 (chI x)) ∧ _) at HC
  rw [h0] at HC
  clear S h hn hx b1 h0
  simp only [vI] at HC ⊢
  go_enter Tryz.func36, Tryz.ntmps36
  go_wp2_with (first
    | (go_at_call 20; refine HC.out.mono ?_; rintro e w2 ⟨rfl, hb2⟩; have HB2 := Lib.hid hb2; clear hb2)
    | fail)
  go_ret
  exact ⟨rfl, HS.out.trans (HB2.out.mono HS.out.size)⟩
theorem two_boxes (w : World) (t1 t2 : TypeId) (a b : Array Value) : ∃ w1, (w.alloc (.cells a t1)).alloc (.cells b t2) = w1 ∧ Blk w1 w.heap.size t1 a ∧ Blk w1 (w.heap.size + 1) t2 b ∧ Below w.heap.size w w1 :=
  ⟨_, rfl, (Blk.fresh w t1 a).alloc _, Blk.freshAt _ t2 b _ (by simp), (below_alloc w _).alloc (by simp) _⟩
theorem den_right (xs : List Nd) (A : Option Addr) (cap : Nat) (x : It) (Ax : Option Addr) (cx n : Nat) (w : World) (hn : n ≤ w.heap.size) (hx : RdN w n A xs) (ho : ∀ x ∈ xs, okN x) (hm : xs.length ≤ 1099511627776) (hce : checkE chI xs = 0) (hi : AtB w n x Ax cx) (hio : okI 1048576 x) (hic : chI x = 0) :
    Calls Tryz.prog 23 #[vS A xs cap, vI x Ax cx] w fun e w' => e = .returned (.bool true) ∧ Below w.heap.size w w' := by
  obtain ⟨w1, hw1, b1, b2, S⟩ := two_boxes w 24 28 #[.slice A xs.length cap] #[.int .i64 x.k, .int .u64 x.n, .string x.s, .slice Ax x.l.length cx]
  obtain ⟨p0, p1, p2, p3, -⟩ := iblk b2
  have q0 := sblk b1
  have HCK := Lib.hid (sch_Check xs A cap n w1 (Nat.le_trans hn S.size) (hx.keep (S.mono hn)) ho hm)
  have HM := Lib.hid (fun W (hW : Below w1.heap.size w1 W) => den_may x Ax cx n W hio (Nat.le_trans hn (Nat.le_trans S.size hW.size)) (hi.keep ((S.trans (hW.mono S.size)).mono hn)) hic)
  have HS := Lib.hid S
  have HB2 := Lib.hid b2
  rw [hce] at HCK
  unfold vS at HCK ⊢
  generalize (checkI chI xs : Nat) = ci at *
  simp only [vI] at HM ⊢
  clear S hx ho hm hce hi hio hic b1 b2 hn
  generalize xs.length = m at *
  go_enter Tryz.func23, Tryz.ntmps23
  go_wp2_with (first
    | (go_at_call 19; refine HCK.out.mono ?_; rintro e w2 ⟨rfl, hb2⟩; obtain ⟨s0, s1, s2, s3, -⟩ := iblk (HB2.out.on hb2); have HB := Lib.hid hb2; clear hb2)
    | (go_at_call 36; refine (HM.out _ HB.out).mono ?_; rintro e w3 ⟨rfl, hb3⟩; have HB3 := Lib.hid hb3; clear hb3)
    | fail)
  go_ret
  exact ⟨rfl, (HS.out.trans (HB.out.mono HS.out.size)).trans (HB3.out.mono (HS.out.trans (HB.out.mono HS.out.size)).size)⟩
/-- The rules of a schema's nodes, whatever the parts. -/
def RulesOk (xs : List Nd) (x : It) (fr : Nat) (R : List Pt → Nat → Nat → Bool) : Prop :=
  ∀ (w0 : World) (n : Nat) (ps : List Pt), n ≤ w0.heap.size → Sp x ps.length ps → (∀ p ∈ ps, AtB w0 n p.x p.A p.cap) → ∀ (node : Nat) (y : Nd) (p : Pl) (W : World) (B H cm g : Nat), xs[node]? = some y → fr ≤ node → NdB W n y p → Tbl W B H cm g xs.length ps.length (node + 1) (R ps) → w0.heap.size ≤ B → Below w0.heap.size w0 W →
    Calls Tryz.prog 35 #[vN y p, standsV cm] W fun e W' => ∃ fid lb, e = .returned (.func (.func fid) #[] lb) ∧ (fid = 61 ∨ fid = 58 ∨ fid = 76) ∧ Rule w0 W W' B cm g xs.length ps.length node (R ps) ps fid lb ∧ Below W.heap.size W W'
theorem Sp.ne {x : It} {k : Nat} {ps : List Pt} (h : Sp x k ps) : 0 < ps.length := by
  have := h.first
  have := (List.getElem?_eq_some_iff.1 this).1
  rwa [List.length_map] at this
theorem den_stands0 (w : World) {B H cm g n m lo : Nat} {R : Nat → Nat → Bool} (h : Tbl w B H cm g n m lo R) (i : Nat) (hi : lo ≤ i) (hn : i < n) (ha : 0 < m) :
    Calls Tryz.prog 34 #[.int .i64 (i : Int), .int .i64 0, .pointer (some ⟨cm, 0, none⟩)] w fun e w' => e = .returned (.bool (R i 0)) ∧ w' = w := den_stands w h i 0 hi hn ha
set_option maxRecDepth 100000 in
set_option maxHeartbeats 4000000 in
theorem den_Matches (xs : List Nd) (A : Option Addr) (cap : Nat) (x : It) (Ax : Option Addr) (cx n node : Nat) (R : List Pt → Nat → Nat → Bool) (w : World) (hn : n ≤ w.heap.size) (hx : RdN w n A xs) (ho : ∀ x ∈ xs, okN x) (hm : xs.length ≤ 1048576) (hce : checkE chI xs = 0) (hi : AtB w n x Ax cx) (hio : okI 1048576 x) (hic : chI x = 0)
    (hnode : node < xs.length) (hr : RulesOk xs x node R) :
    Calls Tryz.prog 9 #[vS A xs cap, .int .i64 (node : Int), vI x Ax cx] w fun e w' => (∃ ps, Sp x ps.length ps ∧ e = .returned (.bool (R ps node 0))) ∧ Below w.heap.size w w' := by
  obtain ⟨w1, hw1, b1, b2, S⟩ := two_boxes w 24 28 #[.slice A xs.length cap] #[.int .i64 x.k, .int .u64 x.n, .string x.s, .slice Ax x.l.length cx]
  obtain ⟨p0, p1, p2, p3, -⟩ := iblk b2
  have q0 := sblk b1
  have HUP : Hid (∀ W, Below w1.heap.size w1 W → Below w.heap.size w W) := Lib.hid (fun W hW => S.trans (hW.mono S.size))
  have HRT := Lib.hid (den_right xs A cap x Ax cx n w1 (Nat.le_trans hn S.size) (hx.keep (S.mono hn)) ho (by omega) hce (hi.keep (S.mono hn)) hio hic)
  have HSP := Lib.hid (fun W (hW : Below w1.heap.size w1 W) => den_spread x Ax cx n W (by have := hio.1; omega) (Nat.le_trans hn (Nat.le_trans S.size hW.size)) (hi.keep ((S.trans (hW.mono S.size)).mono hn)))
  have HTL := Lib.hid (fun W (hW : Below w1.heap.size w1 W) (ps : List Pt) (Bp gp capp : Nat) (h1 : OwnP W Bp (.slice (some ⟨gp, 0, none⟩) ps.length capp) ps) (h2 : Sp x ps.length ps) (h3 : ∀ p ∈ ps, AtB W n p.x p.A p.cap) =>
    den_teller xs A cap n node ps Bp gp capp (R ps) W (Nat.le_trans hn (Nat.le_trans S.size hW.size)) (hx.keep ((S.trans (hW.mono S.size)).mono hn)) hm (Nat.le_of_lt hnode) (by have := h2.bound; have := hio.1; omega) h1 (hr W n ps (Nat.le_trans hn (Nat.le_trans S.size hW.size)) h2 h3))
  have HB1 := Lib.hid b1
  have HB2 := Lib.hid b2
  have HNX := Lib.hid hnode
  have hni : (node : Int) < (xs.length : Int) := by omega
  have hn0 : ¬ (node : Int) < 0 := by omega
  have hbig : (xs.length : Int) ≤ 1048576 := by omega
  unfold vS at HRT HTL ⊢
  unfold standsV at HTL
  simp only [vI] at HRT HSP ⊢
  clear S hx ho hm hce hi hio hic b1 b2 hn hr hnode
  generalize xs.length = m at *
  go_enter Tryz.func9, Tryz.ntmps9
  go_wp2_with (first
    | (go_at_call 23; refine HRT.out.mono ?_; rintro e w2 ⟨rfl, hb2⟩; have HB := Lib.hid hb2; clear hb2)
    | fail)
  have HX1 := Lib.hid (HB1.out.on HB.out)
  have HX2 := Lib.hid (HB2.out.on HB.out)
  have a0 := sblk HX1.out
  obtain ⟨i0, i1, i2, i3, -⟩ := iblk HX2.out
  have HD := Lib.hid (show Below w2.heap.size w2 w2.drew from (Below.refl _ _).drew)
  have hfol : Tryz.prog.follows Departure.mixedOrders = true := by kernel_rfl
  clear p0 p1 p2 p3 q0 hw1
  go_region_with (first
    | (go_at_call 22; refine (HSP.out _ (HB.out.trans (HD.out.mono HB.out.size))).mono ?_; rintro e w5 ⟨v5, ps, rfl, hO, hSp, hAt, hb⟩; obtain ⟨gp, capp, rfl, -, -, -, -⟩ := oc_head hO hSp.ne; have HO5 := Lib.hid hO; have HSp5 := Lib.hid hSp; have HAt5 := Lib.hid hAt; have HB5 := Lib.hid (HD.out.trans hb); have a5 := sblk (HX1.out.on HB5.out); obtain ⟨j0, j1, j2, j3, -⟩ := iblk (HX2.out.on HB5.out); clear hO hSp hAt hb)
    | (go_at_call 21; refine (HTL.out _ (HB.out.trans (HB5.out.mono HB.out.size)) ps _ gp capp HO5.out HSp5.out HAt5.out).mono ?_; rintro e w6 ⟨cm, gg, H, rfl, hT, hb⟩; have HT6 := Lib.hid hT; have HB6 := Lib.hid (HB5.out.trans (hb.mono HB5.out.size)); have a6 := sblk (HX1.out.on HB6.out); obtain ⟨k0, k1, k2, k3, -⟩ := iblk (HX2.out.on HB6.out); clear hT hb)
    | (go_at_call 34; refine (den_stands0 _ HT6.out node (Nat.le_refl _) HNX.out HSp5.out.ne).mono ?_; rintro e w7 ⟨rfl, rfl⟩)
    | fail)
  all_goals
    clear a0 i0 i1 i2 i3
    go_wp2_with fail
    go_ret
    exact ⟨⟨ps, HSp5.out, rfl⟩, HUP.out _ (HB.out.trans (HB6.out.mono HB.out.size))⟩
end Go.Proofs.YtjelgoeamaejmaaGreat

/- A map from texts to fields that a call made itself: stored into, asked with 'ok'. -/
namespace Go.Proofs.YtjelgoeamaejmaaGreat
open Go.RowKit Go.Maps Go.WideMaps

def fV (f : Fl) : Value := .agg #[.string f.key, .int .i64 f.node, .bool f.opt]
def flD (f : Fl) : DataW Unit := .agg [.lit (.string f.key.data.toList), .lit (.int .i64 f.node), .lit (.bool f.opt)]
def zFl : Fl := ⟨⟨#[]⟩, 0, false⟩
/-- How a field reads. -/
def rdFl (v : Value) : Option (DataW Unit × List MemPlace) := match v with
  | .agg cs => (match cs.toList with
    | [.string s, .int .i64 z, .bool o] => some (.agg [.lit (.string s.data.toList), .lit (.int .i64 z), .lit (.bool o)], [])
    | _ => none)
  | _ => none
theorem rdFl_fV (f : Fl) : rdFl (fV f) = some (flD f, []) := rfl
theorem rdFl_inv {v : Value} {f : Fl} {ps : List MemPlace} (h : rdFl v = some (flD f, ps)) : v = fV f := by
  unfold rdFl at h
  split at h
  · next cs =>
    split at h
    · next s z o e =>
      injection h with h
      injection h with h _
      unfold flD at h
      injection h with h
      injection h with h1 h
      injection h with h2 h
      injection h with h3 _
      injection h1 with h1
      injection h1 with h1
      injection h2 with h2
      injection h2 with _ h2
      injection h3 with h3
      injection h3 with h3
      have hs : s = f.key := ByteArray.ext (Array.toList_inj.1 h1)
      subst hs h2 h3
      unfold fV
      congr 1
      exact Array.toList_inj.1 e
    · cases h
  · cases h
theorem field_zero1 (w : World) : (zeroValue 53).run Tryz.prog w = .ok (fV zFl) w := (zero_of_info (n := 3) (by kernel_rfl)).1 w
theorem strKeyedF : Keyed Tryz.prog 9 := string_keyed Tryz.underlying9
/-- Block b is a map of at most n texts, which holds what M says. -/
def MapF (w : World) (b n : Nat) (M : ByteArray → Option Fl) : Prop :=
  ∃ D : DataW Unit, w.ownsMap Tryz.prog 9 rdFl b n D ∧ ∀ s : ByteArray, s.size ≤ maxLen → D.atKey (.string s.data.toList) (flD zFl) = flD ((M s).getD zFl) ∧ has D (.string s.data.toList) = (M s).isSome
section
variable {w w' : World} {b n : Nat} {M : ByteArray → Option Fl}
theorem MapF.made (w : World) : MapF (w.alloc (.map #[] 0)) w.heap.size 0 fun _ => none :=
  ⟨.map [], World.ownsMap_made _ _ _ _, fun s _ => by simp [DataW.atKey, has]⟩
theorem MapF.lt (h : MapF w b n M) : b < w.heap.size := by obtain ⟨D, h, _⟩ := h; exact h.lt
theorem MapF.kept {row : Option Nat} (h : MapF w b n M) (hg : w.grownBy w' row) (hne : some b ≠ row) : MapF w' b n M := by
  obtain ⟨D, h1, h2⟩ := h
  exact ⟨D, h1.kept hg hne, h2⟩
theorem MapF.on (h : MapF w b n M) (hb : Below w.heap.size w w') : MapF w' b n M := h.kept (Only.ofBelow (g := b + 1) hb) (by simp)
theorem MapF.heap (h : MapF w b n M) (hb : w'.heap[b]? = w.heap[b]?) : MapF w' b n M := by
  obtain ⟨D, ⟨es, clock, h1, h2⟩, h3⟩ := h
  exact ⟨D, ⟨es, clock, hb.trans h1, h2⟩, h3⟩
theorem MapF.look (h : MapF w b n M) {s : ByteArray} (hs : s.size ≤ maxLen) : (Instr.lookup 104 (.map (some b)) (.string s) true).run Tryz.prog w = .ok (.tuple #[fV ((M s).getD zFl), .bool (M s).isSome]) w := by
  obtain ⟨D, h1, h2⟩ := h
  obtain ⟨v, ps, hrun, hv⟩ := h1.look_ok strKeyedF Tryz.underlying104 (field_zero1 w) (rdFl_fV zFl) (keyOf_string_mk Tryz.underlying9 hs)
  rw [(h2 s hs).2] at hrun
  rw [(h2 s hs).1] at hv
  rw [rdFl_inv hv] at hrun
  exact hrun
theorem lit_textF {s t : ByteArray} (h : (Lit.string s.data.toList) = .string t.data.toList) : s = t := by
  injection h with h
  exact ByteArray.ext (Array.toList_inj.1 h)
open Classical in
theorem MapF.store (h : MapF w b n M) {s : ByteArray} (hs : s.size ≤ maxLen) (hn : n < maxLen) (f : Fl) :
    ∃ w', (Instr.mapUpdate 104 (.map (some b)) (.string s) (fV f)).run Tryz.prog w = .ok () w' ∧ MapF w' b (n + 1) (fun t => if t = s then some f else M t) ∧ w.grownBy w' (some b) := by
  obtain ⟨D, h1, h2⟩ := h
  obtain ⟨w', hr, h3, h4⟩ := h1.update strKeyedF Tryz.underlying104 hn (keyOf_string_mk Tryz.underlying9 hs) (rdFl_fV f)
  refine ⟨w', hr, ⟨_, h3, fun t ht => ?_⟩, h4⟩
  by_cases e : t = s
  · subst e
    rw [atKey_put_same h1.isMap (by trivial), has_put_same h1.isMap (by trivial)]
    dsimp only
    rw [if_pos rfl]
    exact ⟨rfl, rfl⟩
  · rw [atKey_put_other (fun h => e (lit_textF h)), has_put_other (fun h => e (lit_textF h))]
    dsimp only
    rw [if_neg e]
    exact h2 t ht
end
/-- For an arm of the walk: a store into a map whose run is known. -/
theorem wpList_mapF_run {P : Program} {ops : Array Oper} {rest : List Oper} {o : Oper} {a : Act} {w w' : World} {Q : Exit → Act → World → Prop} (hgd : o.guard = none) {t : TypeId} {m x v : Operand} (ho : o.op = Op.mapUpdate t m x v) {vm vx vv : Value}
    (hr : (Instr.mapUpdate t vm vx vv).run P w = .ok () w') (hm : a.eval m = vm) (hx : a.eval x = vx) (hv : a.eval v = vv) (h : wpList P ops Q rest (a.put o.dst undef) w') : wpList P ops Q (o :: rest) a w :=
  wpList_plain hgd fun K hK => by
    unfold Oper.wp
    simp [execOp, ho, hm, hx, hv, hr, Result.andThen]
    exact hK _ _ h
/-! ### The fields by their keys, how many are needed -/
open Classical in
noncomputable def fM (fs : List Fl) (s : ByteArray) : Option Fl := fs.reverse.find? fun f => decide (f.key = s)
theorem fM_snoc (fs : List Fl) (f : Fl) (s : ByteArray) : fM (fs ++ [f]) s = if s = f.key then some f else fM fs s := by
  unfold fM
  rw [List.reverse_append, List.reverse_singleton, List.singleton_append, List.find?_cons]
  by_cases h : s = f.key
  · subst h; simp
  · rw [if_neg h, show decide (f.key = s) = false from decide_eq_false fun e => h e.symm]
theorem fM_mem {fs : List Fl} {s : ByteArray} {f : Fl} (h : fM fs s = some f) : f ∈ fs := by
  have := List.mem_of_find?_eq_some h
  rwa [List.mem_reverse] at this
def needF (fs : List Fl) : Nat := (fs.filter fun f => !f.opt).length
theorem needF_snoc (fs : List Fl) (f : Fl) : needF (fs ++ [f]) = needF fs + if f.opt = true then 0 else 1 := by
  unfold needF
  rw [List.filter_append, List.length_append]
  by_cases h : f.opt = true <;> simp [h]
theorem needF_le (fs : List Fl) : needF fs ≤ fs.length := List.length_filter_le _ _
end Go.Proofs.YtjelgoeamaejmaaGreat

/- Package denote: the rule of a record: its fields laid by their keys. -/
namespace Go.Proofs.YtjelgoeamaejmaaGreat
open Go.RowKit

theorem fl_zero : ∀ w, (zeroValue 53).run Tryz.prog w = .ok (.agg #[.string ⟨#[]⟩, .int .i64 0, .bool false]) w := (zero_of_info (n := 3) (by kernel_rfl)).1
theorem fl_info : (Tryz.prog.info? 53).map (·.size) = some 3 := by kernel_rfl
/-- What a record's rule is made of. -/
def RecPost (cm : Nat) (fs : List Fl) (w : World) (e : Ending) (w' : World) : Prop :=
  ∃ gs gm g6 bm, e = .returned (.func (.func 76) #[] #[.pointer (some ⟨gm, 0, none⟩), .pointer (some ⟨gs, 0, none⟩), .pointer (some ⟨g6, 0, none⟩)]) ∧
      w.heap.size ≤ gs ∧ w.heap.size ≤ gm ∧ w.heap.size ≤ g6 ∧ w.heap.size ≤ bm ∧ Blk w' gs 59 #[standsV cm] ∧ Blk w' gm 104 #[.map (some bm)] ∧ Blk w' g6 3 #[.int .i64 (needF fs : Int)] ∧ MapF w' bm fs.length (fM fs) ∧ Below w.heap.size w w'
set_option maxRecDepth 100000 in
set_option maxHeartbeats 4000000 in
theorem den_recordRule (lo hi : Int) (v : It) (l : List Int) (fs : List Fl) (p : Pl) (cm n : Nat) (w : World) (hn : n ≤ w.heap.size) (hf : RdF w n p.Af fs) (hl : fs.length ≤ 1048576) (hk : ∀ f ∈ fs, f.key.size ≤ 1048576) :
    Calls Tryz.prog 54 #[vN ⟨8, lo, hi, v, l, fs⟩ p, standsV cm] w fun e w' => RecPost cm fs w e w' := by
  obtain ⟨pAv, pcv, pAl, pcl, pAf, pcf⟩ := p
  dsimp only at hf
  obtain ⟨w1, hw1, b1, b2, S⟩ := two_boxes w 47 59 (nc ⟨8, lo, hi, v, l, fs⟩ ⟨pAv, pcv, pAl, pcl, pAf, pcf⟩) #[standsV cm]
  have HS := Lib.hid S
  have HB1 := Lib.hid b1
  have HB2 := Lib.hid b2
  have HF := Lib.hid hf
  have HK := Lib.hid hk
  have HNN := Lib.hid hn
  have HFZ := fl_zero
  unfold nc at b1 hw1
  obtain ⟨p0, p1, p2, p3, p4, p5, p6, p7, p8⟩ := nblk b1
  unfold standsV at hw1
  unfold vN standsV
  dsimp only at *
  have hs1 : w1.heap.size = w.heap.size + 2 := by rw [← hw1]; simp
  have HS1 := Lib.hid hs1
  have hmk : (Instr.makeMap 104 none).run Tryz.prog w1 = .ok (.map (some w1.heap.size)) (w1.alloc (.map #[] 0)) := rfl
  have m2 := MapF.made w1
  have S2 := below_alloc w1 (.map #[] 0)
  have b3 := (Blk.freshAt (w1.alloc (.map #[] 0)) 104 #[.map (some w1.heap.size)] (w1.heap.size + 1) (by simp)).alloc (.cells #[.int .i64 0] 3)
  have b4 := Blk.freshAt ((w1.alloc (.map #[] 0)).alloc (.cells #[.map (some w1.heap.size)] 104)) 3 #[.int .i64 0] (w1.heap.size + 2) (by simp)
  have S4 : Below w1.heap.size w1 (((w1.alloc (.map #[] 0)).alloc (.cells #[.map (some w1.heap.size)] 104)).alloc (.cells #[.int .i64 0] 3)) := (S2.alloc (by simp) _).alloc (by simp; omega) _
  have m4 : MapF (((w1.alloc (.map #[] 0)).alloc (.cells #[.map (some w1.heap.size)] 104)).alloc (.cells #[.int .i64 0] 3)) w1.heap.size 0 (fun _ => none) := (m2.on (below_alloc _ _)).on (below_alloc _ _)
  have HB3 := Lib.hid b3
  have HB4 := Lib.hid b4
  have HS4 := Lib.hid S4
  have HM4 := Lib.hid m4
  have q8 := (HS4.out.cell (p := ⟨w.heap.size, 8, none⟩) (by show w.heap.size < w1.heap.size; omega)).trans p8
  clear b1 b2 S hf hk hn hs1 m2 S2 b3 b4 S4 m4
  have hli : (fs.length : Int) ≤ 1048576 := by omega
  obtain ⟨m, hm⟩ : ∃ m, fs.length = m := ⟨_, rfl⟩
  have HM := Lib.hid hm
  rw [hm] at q8 hli hw1
  go_enter Tryz.func54, Tryz.ntmps54
  go_wp2_with fail
  generalize ((w1.alloc (.map #[] 0)).alloc (.cells #[.map (some w1.heap.size)] 104)).alloc (.cells #[.int .i64 0] 3) = w4 at *
  clear hmk hm p0 p1 p2 p3 p4 p5 p6 p7 p8 q8
  generalize w1.heap.size = g at *
  go_loopw [13] (fun i W => ∃ k : Nat, (k : Int) ≤ (m : Int) ∧ i = .int .i64 (k : Int) ∧ Hid (MapF W g k (fM (fs.take k))) ∧ Hid (Blk W (g + 1) 104 #[.map (some g)]) ∧ Hid (Blk W (g + 1 + 1) 3 #[.int .i64 (needF (fs.take k) : Int)]) ∧ Hid (Below g w1 W)) (fun i _ => m - (intOf i).toNat)
  case atStart => exact ⟨0, by omega, rfl, by have := HM4.out; exact Lib.hid (by rwa [List.take_zero]), HB3, HB4, HS4⟩
  case round =>
    clear HM4 HB3 HB4 HS4
    obtain ⟨k, hk, rfl, HMP, HG1, HG2, HB⟩ := hrel
    by_cases hlt : (k : Int) < (m : Int)
    · have HW := Lib.hid (HS.out.trans (HB.out.mono (by have := HS1.out; omega)))
      obtain ⟨b, o, f, rfl, -, -, hfk, c0, c1, c2⟩ := (HF.out.keep (HW.out.mono HNN.out)).get (i := k) (by have := HM.out; omega)
      have hkl := (List.getElem?_eq_some_iff.1 hfk).1
      have htk : fs.take (k + 1) = fs.take k ++ [f] := by
        rw [List.take_succ_eq_append_getElem hkl]
        rw [List.getElem?_eq_getElem hkl] at hfk
        injection hfk with hfk
        rw [hfk]
      have hks := HK.out f (List.mem_of_getElem? hfk)
      have b0 : Blk (wr.alloc (.cells #[.string ⟨#[]⟩, .int .i64 0, .bool false] 53)) wr.heap.size 53 #[.string ⟨#[]⟩, .int .i64 0, .bool false] := Blk.fresh _ _ _
      have S0 := below_alloc wr (.cells #[.string ⟨#[]⟩, .int .i64 0, .bool false] 53)
      obtain ⟨wZ, hwZ⟩ : ∃ wZ, wr.alloc (.cells #[.string ⟨#[]⟩, .int .i64 0, .bool false] 53) = wZ := ⟨_, rfl⟩
      rw [hwZ] at b0 S0
      have hst0 := run_store_all (P := Tryz.prog) (ty := 53) (c' := #[.string f.key, .int .i64 f.node, .bool f.opt]) b0 fl_info rfl (by simp [Value.oneCell'])
      have b5 := b0.setRow #[.string f.key, .int .i64 f.node, .bool f.opt]
      have S5 := below_row S0 (Nat.le_refl _) #[.string f.key, .int .i64 f.node, .bool f.opt]
      generalize wZ.setRow wr.heap.size #[.string f.key, .int .i64 f.node, .bool f.opt] = w5 at *
      have HST0 := Lib.hid hst0
      have hgl := HMP.out.lt
      obtain ⟨w6, hR6, hM6, hG6⟩ := (HMP.out.on S5).store (s := f.key) (by unfold maxLen; omega) (by unfold maxLen; omega) f
      have HR6 := Lib.hid hR6
      have hne : wr.heap.size ≠ g := by omega
      have b6 := b5.only hG6 hne
      have g1 := (HG1.out.on S5).only hG6 (by omega)
      have g2 := (HG2.out.on S5).only hG6 (by omega)
      have HB6 : Hid (Below g w1 w6) := Lib.hid ((HB.out.trans (S5.mono (by omega))).trans (Only.below (g := g) hG6 (Nat.le_refl _) (Nat.le_trans (Nat.le_of_lt hgl) S5.size)))
      have HM6 : Hid (MapF w6 g (k + 1) (fM (fs.take (k + 1)))) := Lib.hid (by
        have e : fM (fs.take (k + 1)) = fun t => if t = f.key then some f else fM (fs.take k) t := funext fun t => by rw [htk, fM_snoc]
        rw [e]
        exact hM6)
      have HNF := Lib.hid (by rw [htk]; exact needF_snoc (fs.take k) f : needF (fs.take (k + 1)) = needF (fs.take k) + if f.opt = true then 0 else 1)
      have hnl : (needF (fs.take k) : Int) ≤ 1048576 := by have h1 := needF_le (fs.take k); rw [List.length_take] at h1; omega
      unfold fV at HR6
      obtain ⟨x0, x1, x2⟩ : w5.cell? ⟨wr.heap.size, 0, none⟩ = some (.string f.key) ∧ w5.cell? ⟨wr.heap.size, 1, none⟩ = some (.int .i64 f.node) ∧ w5.cell? ⟨wr.heap.size, 2, none⟩ = some (.bool f.opt) := ⟨by rw [b5.cell]; rfl, by rw [b5.cell]; rfl, by rw [b5.cell]; rfl⟩
      have x3 : w5.cell? ⟨g + 1, 0, none⟩ = some (.map (some g)) := by rw [(HG1.out.on S5).cell]; rfl
      have y2 : w6.cell? ⟨wr.heap.size, 2, none⟩ = some (.bool f.opt) := by rw [b6.cell]; rfl
      have y3 : w6.cell? ⟨g + 1 + 1, 0, none⟩ = some (.int .i64 (needF (fs.take k) : Int)) := by rw [g2.cell]; rfl
      have y4 := g2.free 0
      have HG1' := Lib.hid g1
      have HG2' := Lib.hid g2
      obtain ⟨nf, hnf⟩ : ∃ nf, needF (fs.take k) = nf := ⟨_, rfl⟩
      rw [hnf] at HNF hnl y3 HG2'
      clear hR6 hM6 hG6 b0 S0 hst0 S5 b5 b6 g1 g2 hnf HMP HG1 HG2 HB htk hfk hkl
      obtain ⟨op, hop⟩ : ∃ op, f.opt = op := ⟨_, rfl⟩
      rw [hop] at x2 y2 HNF HR6 HST0 c2
      clear hop
      cases op with
      | true =>
        rw [if_pos rfl, Nat.add_zero] at HNF
        go_wp2_with (first
          | (at_mapUpdate; (with_reducible refine wpList_mapF_run rfl rfl HR6.out ?_ ?_ ?_ ?_); (· rfl); (· rfl); (· rfl))
          | ((with_reducible refine is_store 53 rfl ?_); (with_reducible refine wpList_store_run rfl rfl HST0.out ?_ ?_ ?_); (· rfl); (· rfl))
          | fail)
        go_roundw
        case rel => exact ⟨k + 1, by omega, by simp, HM6, HG1', by rw [HNF.out]; exact HG2', HB6⟩
        case measure => simp [intOf]; omega
      | false =>
        rw [if_neg (by decide)] at HNF
        have HB7 : Hid (Below g w1 (w6.setCell ⟨g + 1 + 1, 0, none⟩ (.int .i64 ((nf : Int) + 1)))) := Lib.hid (HB6.out.setCell (p := ⟨g + 1 + 1, 0, none⟩) (by show g ≤ g + 1 + 1; omega) _)
        have HG3 : Hid (Blk (w6.setCell ⟨g + 1 + 1, 0, none⟩ (.int .i64 ((nf : Int) + 1))) (g + 1 + 1) 3 #[.int .i64 ((needF (fs.take (k + 1)) : Nat) : Int)]) := Lib.hid (by
          have := HG2'.out.put 0 (.int .i64 ((nf : Int) + 1))
          rw [HNF.out]
          simpa using this)
        have HG4 : Hid (Blk (w6.setCell ⟨g + 1 + 1, 0, none⟩ (.int .i64 ((nf : Int) + 1))) (g + 1) 104 #[.map (some g)]) := Lib.hid (HG1'.out.far (p := ⟨g + 1 + 1, 0, none⟩) (by show g + 1 ≠ g + 1 + 1; omega) _)
        have HM7 : Hid (MapF (w6.setCell ⟨g + 1 + 1, 0, none⟩ (.int .i64 ((nf : Int) + 1))) g (k + 1) (fM (fs.take (k + 1)))) := Lib.hid (HM6.out.heap (Below.heap_setCell _ _ _ _ (by show g ≠ g + 1 + 1; omega)))
        go_wp2_with (first
          | (at_mapUpdate; (with_reducible refine wpList_mapF_run rfl rfl HR6.out ?_ ?_ ?_ ?_); (· rfl); (· rfl); (· rfl))
          | ((with_reducible refine is_store 53 rfl ?_); (with_reducible refine wpList_store_run rfl rfl HST0.out ?_ ?_ ?_); (· rfl); (· rfl))
          | fail)
        go_roundw
        case rel => exact ⟨k + 1, by omega, by simp, HM7, HG4, HG3, HB7⟩
        case measure => simp [intOf]; omega
    · obtain rfl : k = m := by omega
      have HBW := Lib.hid (HS.out.trans (HB.out.mono (by have := HS1.out; omega)))
      have hgs : Blk wr (w.heap.size + 1) 59 #[standsV cm] := HB2.out.below HB.out (by have := HS1.out; omega)
      have HGS := Lib.hid hgs
      have HG := Lib.hid HS1.out
      have e : fs.take k = fs := List.take_of_length_le (by rw [HM.out]; exact Nat.le_refl _)
      rw [e] at HMP HG2
      clear hgs e
      unfold standsV at HGS
      go_wp2_with fail
      go_ret
      exact ⟨w.heap.size + 1, g + 1, g + 1 + 1, g, rfl, by omega, by have := HG.out; omega, by have := HG.out; omega, by have := HG.out; omega, HGS.out, HG1.out, HG2.out, by rw [HM.out]; exact HMP.out, HBW.out⟩
end Go.Proofs.YtjelgoeamaejmaaGreat
