/- Below, with the count of draws: it never goes down. -/
import Derived.Test.YtchhbcmkhbfpoaaKAE
import Derived.Lib.QuietBelow
import Derived.Test.YtchhbcmkhbfpoaaKAD
import Derived.Test.YtchhbcmkhbfpoaaKAQ
import Derived.Deep.QuietTactic
import Derived.Test.YtchhbcmkhbfpoaaKAS
import Derived.Test.YtchhbcmkhbfpoaaKAT
import Derived.Test.YtchhbcmkhbfpoaaKAW
namespace Go.Proofs.Ytchhbcmkhbfpoaa
open Go.RowKit Go.Sort

theorem viewStore_drawn {P : Program} {w w' : World} {at_ : Addr} {u : TypeId} {k : Addr} {v : Value} {m : Bool} {l : List Addr} (h : w.viewStore P at_ u k v m = .ok (w', l)) : w'.drawn = w.drawn := by
  unfold World.viewStore at h
  simp only [bind, Except.bind, pure, Except.pure] at h
  repeat' (first | (split at h) | (cases h; rfl) | (cases h))
theorem farStore_drawn {P : Program} {w w' : World} {a : Addr} {v : Value} {m : Bool} {l : List Addr} (h : w.farStore P a v m = .ok (w', l)) : w'.drawn = w.drawn := by
  unfold World.farStore at h
  split at h
  · split at h
    · rename_i r hr
      cases h
      exact viewStore_drawn hr
    · cases h
  · cases h
theorem ask_drawn {α : Type} : ∀ (a : Ask α) (w : World), w.drawn ≤ (w.ask a).2.drawn
  | .done _, w => by simp [World.ask]
  | .ask what range k, w => by
    rw [World.ask]
    split
    · exact ask_drawn _ _
    · exact Nat.le_trans (Nat.le_succ _) (ask_drawn _ { w with drawn := w.drawn + 1 })
theorem sys_drawn (w : World) (c : Sys) : w.drawn ≤ (w.sys c).2.drawn := by
  unfold World.sys
  have := ask_drawn (Kernel.perform c w.os) w
  split
  · exact Nat.le_refl _
  · rename_i h
    rw [h] at this
    exact this
/-- No run lowers the count of draws. -/
theorem run_drawn {α : Type} {P : Program} : ∀ (s : Sem α) {w w' : World} {a : α}, s.run P w = .ok a w' → w.drawn ≤ w'.drawn := by
  intro s
  induction s with
  | pure a => intro w w' b h; cases h; exact Nat.le_refl _
  | load m a k ih =>
    intro w w' b h
    rw [Sem.run] at h
    split at h
    · exact ih _ h
    · split at h
      · exact ih _ h
      · cases h
  | store m a v k ih =>
    intro w w' b h
    rw [Sem.run.eq_def] at h
    split at h <;> first | contradiction | (rename_i heq; cases heq)
    split at h
    · split at h
      · cases h
      · have := ih h
        exact this
    · split at h
      · rename_i e
        have h1 := ih h
        rw [farStore_drawn e] at h1
        exact h1
      · cases h
  | new o k ih => intro w w' b h; rw [Sem.run] at h; have := ih _ h; exact this
  | shape r k ih => intro w w' b h; rw [Sem.run] at h; exact ih _ h
  | freeze a n k ih =>
    intro w w' b h
    rw [Sem.run] at h
    have := ih h
    unfold World.freeze at this
    split at this <;> exact this
  | frozen a k ih => intro w w' b h; rw [Sem.run] at h; exact ih _ h
  | getObj r k ih =>
    intro w w' b h
    rw [Sem.run] at h
    split at h
    · cases h
    · exact ih _ h
    · cases h
  | setObj r o k ih =>
    intro w w' b h
    rw [Sem.run] at h
    split at h
    · cases h
    · have := ih h
      exact this
    · cases h
  | choose q k ih =>
    intro w w' b h
    rw [Sem.run] at h
    split at h
    · exact ih _ h
    · have := ih _ h
      exact Nat.le_trans (Nat.le_succ _) this
  | sys c k ih => intro w w' b h; rw [Sem.run] at h; exact Nat.le_trans (sys_drawn w c) (ih _ h)
  | program k ih => intro w w' b h; rw [Sem.run] at h; exact ih _ h
  | mark m k ih => intro w w' b h; rw [Sem.run] at h; exact ih h
  | halt e => intro w w' b h; cases h

/-- Below block number B the world is as it was, and no draw is taken back. -/
structure Bel (B : Nat) (w w' : World) : Prop extends Below B w w' where
  dr : w.drawn ≤ w'.drawn
section
variable {B B' : Nat} {a b c w w' : World}
instance : CoeOut (Bel B w w') (Below B w w') := ⟨Bel.toBelow⟩
theorem Bel.refl (B : Nat) (w : World) : Bel B w w := ⟨Below.refl B w, Nat.le_refl _⟩
theorem Bel.trans (h : Bel B a b) (k : Bel B b c) : Bel B a c := ⟨h.toBelow.trans k.toBelow, Nat.le_trans h.dr k.dr⟩
theorem Bel.mono (h : Bel B a b) (hB : B' ≤ B) : Bel B' a b := ⟨h.toBelow.mono hB, h.dr⟩
theorem Bel.alloc (h : Bel B a w) (hB : B ≤ w.heap.size) (o : Obj) : Bel B a (w.alloc o) := ⟨h.toBelow.alloc hB o, h.dr⟩
theorem Bel.drewN (h : Bel B a w) (n : Nat) : Bel B a (w.drewN n) := ⟨below_drawnN h.toBelow n, Nat.le_trans h.dr (Nat.le_add_right _ _)⟩
theorem Bel.setCell (h : Bel B a w) {p : Addr} (hp : B ≤ p.block) (u : Value) : Bel B a (w.setCell p u) := ⟨h.toBelow.setCell hp u, h.dr⟩
theorem Bel.of_run {α : Type} {P : Program} {s : Sem α} {v : α} (hr : s.run P w = .ok v w') (hb : Below B w w') : Bel B w w' := ⟨hb, run_drawn s hr⟩
theorem bel_alloc (w : World) (o : Obj) : Bel w.heap.size w (w.alloc o) := ⟨below_alloc w o, Nat.le_refl _⟩
/-- Such a world is the old one, some draws on, with blocks behind it. -/
theorem Bel.grow (h : Bel w.heap.size w w') : ∃ q os, w' = grow (w.drewN q) os := by
  obtain ⟨⟨d, os⟩, e⟩ := regrown_of_below h.toBelow
  have hd : w.drawn ≤ d := by
    have := h.dr
    rw [e] at this
    exact this
  refine ⟨d - w.drawn, os, ?_⟩
  rw [e]
  show Sort.grow { w with drawn := d } os = Sort.grow { w with drawn := w.drawn + (d - w.drawn) } os
  rw [Nat.add_sub_cancel' hd]
theorem bel_grow (w : World) (q : Nat) (os : Array Obj) : Bel w.heap.size w (Sort.grow (w.drewN q) os) :=
  ⟨⟨rfl, rfl, rfl, by simp [Sort.grow], fun k hk => by simp [Sort.grow, Array.getElem?_append, hk]⟩, Nat.le_add_right _ _⟩
end
end Go.Proofs.Ytchhbcmkhbfpoaa

/- Package item: two items held against each other by themselves. -/
namespace Go.Proofs.Ytchhbcmkhbfpoaa
open Go.RowKit

/-- A block of an item's four cells. -/
theorem iblk {w : World} {g : Nat} {t : TypeId} {a b c d : Value} (h : Blk w g t #[a, b, c, d]) :
    w.cell? ⟨g, 0, none⟩ = some a ∧ w.cell? ⟨g, 1, none⟩ = some b ∧ w.cell? ⟨g, 2, none⟩ = some c ∧ w.cell? ⟨g, 3, none⟩ = some d ∧ w.frozen? ⟨g, 3, none⟩ = false :=
  ⟨by rw [h.cell]; rfl, by rw [h.cell]; rfl, by rw [h.cell]; rfl, by rw [h.cell]; rfl, h.free 3⟩
/-- Two items boxed, one behind the other. -/
theorem iblk2 (w : World) (t : TypeId) (a b : Array Value) : ∃ w1, (w.alloc (.cells a t)).alloc (.cells b t) = w1 ∧ Blk w1 w.heap.size t a ∧ Blk w1 (w.heap.size + 1) t b ∧ Below w.heap.size w w1 :=
  ⟨_, rfl, (Blk.fresh w t a).alloc _, by have := Blk.fresh (w.alloc (.cells a t)) t b; rwa [World.size_alloc] at this, (below_alloc w _).alloc (by simp) _⟩
theorem iblk2B (w : World) (t : TypeId) (a b : Array Value) : ∃ w1, (w.alloc (.cells a t)).alloc (.cells b t) = w1 ∧ Blk w1 w.heap.size t a ∧ Blk w1 (w.heap.size + 1) t b ∧ Bel w.heap.size w w1 :=
  ⟨_, rfl, (Blk.fresh w t a).alloc _, by have := Blk.fresh (w.alloc (.cells a t)) t b; rwa [World.size_alloc] at this, (bel_alloc w _).alloc (by simp) _⟩
theorem iblk1 (w : World) (t : TypeId) (a : Array Value) : ∃ w1, w.alloc (.cells a t) = w1 ∧ Blk w1 w.heap.size t a ∧ Below w.heap.size w w1 :=
  ⟨_, rfl, Blk.fresh w t a, below_alloc w _⟩

end Go.Proofs.Ytchhbcmkhbfpoaa

/- Package limit: are limits right; the document's answer. -/
namespace Go.Proofs.Ytchhbcmkhbfpoaa
open Go.RowKit

/-- Are limits right? -/
def rightL (d k s : Int) : Bool := decide (1 ≤ d) && decide (d ≤ 64) && (decide (1 ≤ k) && decide (k ≤ 1024)) && (decide (1 ≤ s) && decide (s ≤ 2305843009213693951))
theorem rightL_true {d k s : Int} : rightL d k s = true ↔ 1 ≤ d ∧ d ≤ 64 ∧ 1 ≤ k ∧ k ≤ 1024 ∧ 1 ≤ s ∧ s ≤ 2305843009213693951 := by
  simp only [rightL, Bool.and_eq_true, decide_eq_true_eq, and_assoc]
/-- What Check tells of limits. -/
def rightR (d k s : Int) : Int := if rightL d k s = true then 0 else 15
/-- Limits boxed. -/
theorem lblk {w : World} {g : Nat} {t : TypeId} {a b c : Value} (h : Blk w g t #[a, b, c]) :
    w.cell? ⟨g, 0, none⟩ = some a ∧ w.cell? ⟨g, 1, none⟩ = some b ∧ w.cell? ⟨g, 2, none⟩ = some c :=
  ⟨by rw [h.cell]; rfl, by rw [h.cell]; rfl, by rw [h.cell]; rfl⟩
/-- Limits as a value. -/
def vL (d k s : Int) : Value := .agg #[.int .i64 d, .int .i64 k, .int .i64 s]

theorem limit_within (n m : Int) (w : World) : Calls Try.prog 33 #[.int .i64 n, .int .i64 m] w fun e w' => e = .returned (.bool (decide (1 ≤ n) && decide (n ≤ m))) ∧ w' = w := by
  by_cases h : 1 ≤ n
  · go_enter Try.func33, Try.ntmps33
    go_wp2
    go_ret
    exact ⟨by rw [decide_eq_true h, Bool.true_and]; rfl, rfl⟩
  · go_enter Try.func33, Try.ntmps33
    go_wp2
    go_ret
    exact ⟨by rw [decide_eq_false (by omega : ¬ 1 ≤ n), Bool.false_and]; rfl, rfl⟩

set_option maxRecDepth 100000 in
set_option maxHeartbeats 4000000 in
theorem limit_Check (d k s : Int) (w : World) : Calls Try.prog 22 #[vL d k s] w fun e w' => e = .returned (.int .i64 (rightR d k s)) ∧ Below w.heap.size w w' := by
  obtain ⟨w1, hw1, b1, S⟩ := iblk1 w 24 #[.int .i64 d, .int .i64 k, .int .i64 s]
  obtain ⟨p0, p1, p2⟩ := lblk b1
  have HW := fun (n m : Int) => limit_within n m w1
  unfold rightR rightL vL
  obtain ⟨x1, e1⟩ : ∃ x, (decide (1 ≤ d) && decide (d ≤ 64)) = x := ⟨_, rfl⟩
  obtain ⟨x2, e2⟩ : ∃ x, (decide (1 ≤ k) && decide (k ≤ 1024)) = x := ⟨_, rfl⟩
  obtain ⟨x3, e3⟩ : ∃ x, (decide (1 ≤ s) && decide (s ≤ 2305843009213693951)) = x := ⟨_, rfl⟩
  rw [e1, e2, e3]
  have HS := Lib.hid S
  have HW := Lib.hid HW
  have E1 := Lib.hid e1
  have E2 := Lib.hid e2
  have E3 := Lib.hid e3
  clear S b1 e1 e2 e3
  cases x1 <;> cases x2 <;> cases x3 <;>
  · go_enter Try.func22, Try.ntmps22
    go_wp2_with (go_at_call 33; refine (HW.out _ _).mono ?_; rintro e w' ⟨rfl, rfl⟩; (first | rw [E1.out] | rw [E2.out] | rw [E3.out]))
    go_ret
    exact ⟨rfl, HS.out⟩

set_option maxRecDepth 100000 in
set_option maxHeartbeats 4000000 in
theorem ref_Right (d k s : Int) (w : World) : Calls Try.prog 7 #[vL d k s] w fun e w' => e = .returned (.bool (rightL d k s)) ∧ Below w.heap.size w w' := by
  obtain ⟨w1, hw1, b1, S⟩ := iblk1 w 24 #[.int .i64 d, .int .i64 k, .int .i64 s]
  obtain ⟨p0, p1, p2⟩ := lblk b1
  have HS := Lib.hid S
  have HR : RowKit.Hid (rightL d k s = (decide (1 ≤ d) && decide (d ≤ 64) && (decide (1 ≤ k) && decide (k ≤ 1024)) && (decide (1 ≤ s) && decide (s ≤ 2305843009213693951)))) := Lib.hid rfl
  unfold vL
  generalize rightL d k s = R at *
  clear S b1
  by_cases h1 : 1 ≤ d
  · by_cases h2 : d ≤ 64
    · by_cases h3 : 1 ≤ k
      · by_cases h4 : k ≤ 1024
        · by_cases h5 : 1 ≤ s
          · by_cases h6 : s ≤ 2305843009213693951
            · have HR' : R = true := by rw [HR.out, decide_eq_true h1, decide_eq_true h2, decide_eq_true h3, decide_eq_true h4, decide_eq_true h5, decide_eq_true h6]; rfl
              subst HR'
              clear HR
              go_enter Try.func7, Try.ntmps7
              go_wp2_with fail
              go_ret
              exact ⟨rfl, HS.out⟩
            · have HR' : R = false := by rw [HR.out, decide_eq_true h1, decide_eq_true h2, decide_eq_true h3, decide_eq_true h4, decide_eq_true h5, decide_eq_false h6]; rfl
              subst HR'
              clear HR
              go_enter Try.func7, Try.ntmps7
              go_wp2_with fail
              go_ret
              exact ⟨rfl, HS.out⟩
          · have HR' : R = false := by rw [HR.out, decide_eq_true h1, decide_eq_true h2, decide_eq_true h3, decide_eq_true h4, decide_eq_false h5]; rfl
            subst HR'
            clear HR
            go_enter Try.func7, Try.ntmps7
            go_wp2_with fail
            go_ret
            exact ⟨rfl, HS.out⟩
        · have HR' : R = false := by rw [HR.out, decide_eq_true h1, decide_eq_true h2, decide_eq_true h3, decide_eq_false h4]; rfl
          subst HR'
          clear HR
          go_enter Try.func7, Try.ntmps7
          go_wp2_with fail
          go_ret
          exact ⟨rfl, HS.out⟩
      · have HR' : R = false := by rw [HR.out, decide_eq_true h1, decide_eq_true h2, decide_eq_false h3]; rfl
        subst HR'
        clear HR
        go_enter Try.func7, Try.ntmps7
        go_wp2_with fail
        go_ret
        exact ⟨rfl, HS.out⟩
    · have HR' : R = false := by rw [HR.out, decide_eq_true h1, decide_eq_false h2]; rfl
      subst HR'
      clear HR
      go_enter Try.func7, Try.ntmps7
      go_wp2_with fail
      go_ret
      exact ⟨rfl, HS.out⟩
  · have HR' : R = false := by rw [HR.out, decide_eq_false h1]; rfl
    subst HR'
    clear HR
    go_enter Try.func7, Try.ntmps7
    go_wp2_with fail
    go_ret
    exact ⟨rfl, HS.out⟩
end Go.Proofs.Ytchhbcmkhbfpoaa

/- Package auto: an automaton in memory; deep, Len, Done, Cap, walkOn. -/
namespace Go.Proofs.Ytchhbcmkhbfpoaa
open Go.RowKit

/-- What an automaton holds. -/
structure AC where
  D : Int
  K : Int
  S : Int
  s : Nat
  q : HQ
  text : Int
  u : UQ
  handed : Int
  done : Bool
  wrong : Int
def AC.cells (x : AC) : Array Value := #[.int .i64 x.D, .int .i64 x.K, .int .i64 x.S, .pointer (some ⟨x.s, 0, none⟩), .int .i64 x.q.major, .int .i64 x.q.width, .int .u64 x.q.arg, .int .i64 x.q.left, .bool x.q.opn, .int .i64 x.q.wrong, .int .u64 x.text, .int .i64 x.u.left, .int .u8 x.u.lo, .int .u8 x.u.hi, .bool x.u.wr, .int .i64 x.handed, .bool x.done, .int .i64 x.wrong]
def AC.h0 (x : AC) : Array Value := #[.int .i64 x.D, .int .i64 x.K, .int .i64 x.S, .pointer (some ⟨x.s, 0, none⟩)]
def AC.h1 (x : AC) : Array Value := #[.int .u64 x.text, .int .i64 x.u.left, .int .u8 x.u.lo, .int .u8 x.u.hi, .bool x.u.wr, .int .i64 x.handed, .bool x.done, .int .i64 x.wrong]
def AC.u0 (x : AC) : Array Value := #[.int .i64 x.D, .int .i64 x.K, .int .i64 x.S, .pointer (some ⟨x.s, 0, none⟩), .int .i64 x.q.major, .int .i64 x.q.width, .int .u64 x.q.arg, .int .i64 x.q.left, .bool x.q.opn, .int .i64 x.q.wrong, .int .u64 x.text]
def AC.u1 (x : AC) : Array Value := #[.int .i64 x.handed, .bool x.done, .int .i64 x.wrong]
theorem AC.at_head (x : AC) : x.h0 ++ hcells x.q ++ x.h1 = x.cells := rfl
theorem AC.at_walk (x : AC) : x.u0 ++ ucells x.u ++ x.u1 = x.cells := rfl
section
variable {w w' : World} {a : Nat} {x : AC}
theorem au_head (h : Blk w a 73 x.cells) : Fd w a 4 73 x.h0 (hcells x.q) x.h1 := ⟨by rw [x.at_head]; exact h, rfl⟩
theorem au_head' {q : HQ} (h : Fd w a 4 73 x.h0 (hcells q) x.h1) : Blk w a 73 { x with q := q }.cells := by rw [← AC.at_head]; exact h.1
theorem au_walk (h : Blk w a 73 x.cells) : Fd w a 11 73 x.u0 (ucells x.u) x.u1 := ⟨by rw [x.at_walk]; exact h, rfl⟩
theorem au_walk' {u : UQ} (h : Fd w a 11 73 x.u0 (ucells u) x.u1) : Blk w a 73 { x with u := u }.cells := by rw [← AC.at_walk]; exact h.1
/-- The cells that the functions read. -/
theorem au_cells (h : Blk w a 73 x.cells) : w.cell? ⟨a, 0, none⟩ = some (.int .i64 x.D) ∧ w.cell? ⟨a, 1, none⟩ = some (.int .i64 x.K) ∧ w.cell? ⟨a, 2, none⟩ = some (.int .i64 x.S) ∧ w.cell? ⟨a, 3, none⟩ = some (.pointer (some ⟨x.s, 0, none⟩)) ∧ w.cell? ⟨a, 10, none⟩ = some (.int .u64 x.text) ∧ w.cell? ⟨a, 15, none⟩ = some (.int .i64 x.handed) ∧ w.cell? ⟨a, 16, none⟩ = some (.bool x.done) ∧ w.cell? ⟨a, 17, none⟩ = some (.int .i64 x.wrong) ∧ ∀ i, w.frozen? ⟨a, i, none⟩ = false :=
  ⟨h.cell 0, h.cell 1, h.cell 2, h.cell 3, h.cell 10, h.cell 15, h.cell 16, h.cell 17, h.free⟩
end
def SA (own : Nat → Nat) (a j : Nat) : Prop := j = a ∨ Mine own j
/-- An automaton in block a, st open in it. -/
structure Aut (w : World) (own : Nat → Nat) (a f D K : Nat) (st : List Fr) (x : AC) : Prop where
  blk : Blk w a 73 x.cells
  stk : StkR w own x.s f D K st
  oa : own a = 0
  hD : x.D = D
  hK : x.K = K
  lo : ∀ j, own j ≠ 0 → j < w.heap.size
/-- Whatever is open. -/
structure AutW (w : World) (own : Nat → Nat) (a f D K : Nat) (x : AC) : Prop where
  blk : Blk w a 73 x.cells
  stk : StkW w own x.s f D K
  oa : own a = 0
  lo : ∀ j, own j ≠ 0 → j < w.heap.size
section
variable {w w' : World} {own : Nat → Nat} {a f D K : Nat} {st : List Fr} {x : AC}
theorem Aut.weak (h : Aut w own a f D K st x) : AutW w own a f D K x := ⟨h.blk, h.stk.weak, h.oa, h.lo⟩
theorem Aut.on (h : Aut w own a f D K st x) (hb : Below w.heap.size w w') : Aut w' own a f D K st x := ⟨h.blk.on hb, h.stk.on hb, h.oa, h.hD, h.hK, fun j hj => Nat.lt_of_lt_of_le (h.lo j hj) hb.size⟩
theorem AutW.on (h : AutW w own a f D K x) (hb : Below w.heap.size w w') : AutW w' own a f D K x := ⟨h.blk.on hb, h.stk.on hb, h.oa, fun j hj => Nat.lt_of_lt_of_le (h.lo j hj) hb.size⟩
theorem Aut.ofA (h : Aut w own a f D K st x) (ho : Only a w w') {x' : AC} (hb : Blk w' a 73 x'.cells) (hs : x'.s = x.s) (hD : x'.D = x.D) (hK : x'.K = x.K) : Aut w' own a f D K st x' :=
  ⟨hb, by rw [hs]; exact h.stk.wi (.ofOnly (S := fun j => j = a) ho rfl) (fun _ hi => hi ▸ h.oa), h.oa, hD.trans h.hD, hK.trans h.hK, fun j hj => Nat.lt_of_lt_of_le (h.lo j hj) ho.size⟩
theorem AutW.ofA (h : AutW w own a f D K x) (ho : Only a w w') {x' : AC} (hb : Blk w' a 73 x'.cells) (hs : x'.s = x.s) : AutW w' own a f D K x' :=
  ⟨hb, by rw [hs]; exact h.stk.wi (.ofOnly (S := fun j => j = a) ho rfl) (fun _ hi => hi ▸ h.oa), h.oa, fun j hj => Nat.lt_of_lt_of_le (h.lo j hj) ho.size⟩
theorem Aut.ofS (h : Aut w own a f D K st x) (hw : Wi (Mine own) w w') {st' : List Fr} (hs : StkR w' own x.s f D K st') : Aut w' own a f D K st' x :=
  ⟨hw.blk h.blk (fun hm => hm h.oa), hs, h.oa, h.hD, h.hK, fun j hj => Nat.lt_of_lt_of_le (h.lo j hj) hw.size⟩
theorem Aut.ofW (h : Aut w own a f D K st x) (hw : Wi (Mine own) w w') (hs : StkW w' own x.s f D K) : AutW w' own a f D K x :=
  ⟨hw.blk h.blk (fun hm => hm h.oa), hs, h.oa, fun j hj => Nat.lt_of_lt_of_le (h.lo j hj) hw.size⟩
theorem Aut.fresh (h : Aut w own a f D K st x) {j : Nat} (hj : w.heap.size ≤ j) : ¬ Mine own j := fun hm => by have := h.lo j hm; omega
theorem Aut.freshA (h : Aut w own a f D K st x) {j : Nat} (hj : w.heap.size ≤ j) : ¬ SA own a j := fun hm => by
  rcases hm with rfl | hm
  · have := h.blk.lt; omega
  · exact h.fresh hj hm
theorem Aut.wi {T : Nat → Prop} (h : Aut w own a f D K st x) (hw : Wi T w w') (hT : ∀ i, T i → ¬ SA own a i) : Aut w' own a f D K st x :=
  ⟨hw.blk h.blk (fun ht => hT _ ht (.inl rfl)), h.stk.wi hw (fun i hi => Classical.byContradiction fun hn => hT i hi (.inr hn)), h.oa, h.hD, h.hK, fun j hj => Nat.lt_of_lt_of_le (h.lo j hj) hw.size⟩
theorem AutW.wi {T : Nat → Prop} (h : AutW w own a f D K x) (hw : Wi T w w') (hT : ∀ i, T i → ¬ SA own a i) : AutW w' own a f D K x :=
  ⟨hw.blk h.blk (fun ht => hT _ ht (.inl rfl)), h.stk.wi hw (fun i hi => Classical.byContradiction fun hn => hT i hi (.inr hn)), h.oa, fun j hj => Nat.lt_of_lt_of_le (h.lo j hj) hw.size⟩
theorem Aut.only {r : Nat} (h : Aut w own a f D K st x) (ho : Only r w w') (hr : ¬ SA own a r) : Aut w' own a f D K st x := h.wi (.ofOnly (S := fun j => j = r) ho rfl) (fun _ hi => hi ▸ hr)
theorem AutW.only {r : Nat} (h : AutW w own a f D K x) (ho : Only r w w') (hr : ¬ SA own a r) : AutW w' own a f D K x := h.wi (.ofOnly (S := fun j => j = r) ho rfl) (fun _ hi => hi ▸ hr)
theorem Wi.fresh {S : Nat → Prop} {w'' : World} {r : Nat} (h : Wi S w w') (ho : Only r w' w'') (hr : w.heap.size ≤ r) : Wi S w w'' :=
  ⟨ho.os.trans h.os, ho.tape.trans h.tape, ho.output.trans h.output, Nat.le_trans h.size ho.size, fun i hi a => (ho.block i (Nat.lt_of_lt_of_le hi h.size) (fun e => by injection e with e; omega)).trans (h.block i hi a)⟩
theorem only_row {r : Nat} (w : World) (cs : Array Value) : Only r w (w.setRow r cs) := (Only.refl r w).setRow cs
theorem Wi.sa (h : Wi (Mine own) w w') : Wi (SA own a) w w' := h.mono fun _ hi => .inr hi
theorem Wi.saO (h : Only a w w') : Wi (SA own a) w w' := .ofOnly h (.inl rfl)
theorem Aut.lt (h : Aut w own a f D K st x) : a < w.heap.size := h.blk.lt
end

theorem auto_deep (w : World) (own : Nat → Nat) (a f D K : Nat) (st : List Fr) (x : AC) (h : Aut w own a f D K st x) :
    Calls Try.prog 51 #[.pointer (some ⟨a, 0, none⟩)] w fun e w' => e = .returned (.int .i64 (st.length + 1)) ∧ w' = w := by
  obtain ⟨_, _, _, c3, _⟩ := au_cells h.blk
  have HD := Lib.hid (frame_Depth w own x.s f D K st h.stk)
  have hl : st.length ≤ 64 := by obtain ⟨fs, _, q, _⟩ := h.stk; exact Nat.le_trans q.hn q.hl
  clear h
  generalize x.s = s at *
  generalize hN : (st.length : Int) = N at *
  have hN0 : 0 ≤ N := by omega
  have hN1 : N ≤ 64 := by omega
  clear hN hl
  go_enter Try.func51, Try.ntmps51
  go_wp2_with fail
  refine HD.out.mono ?_
  rintro e w' ⟨rfl, rfl⟩
  go_wp2_with fail
  go_ret
  exact ⟨rfl, rfl⟩
theorem auto_Len (w : World) (a : Nat) (x : AC) (h : Blk w a 73 x.cells) :
    Calls Try.prog 13 #[.pointer (some ⟨a, 0, none⟩)] w fun e w' => e = .returned (.int .i64 x.handed) ∧ w' = w := by
  obtain ⟨_, _, _, _, _, c15, _⟩ := au_cells h
  clear h
  go_enter Try.func13, Try.ntmps13
  go_wp2_with fail
  go_ret
  exact ⟨rfl, rfl⟩
theorem auto_Done (w : World) (a : Nat) (x : AC) (h : Blk w a 73 x.cells) :
    Calls Try.prog 14 #[.pointer (some ⟨a, 0, none⟩)] w fun e w' => e = .returned (.bool (x.done && x.wrong == 0)) ∧ w' = w := by
  obtain ⟨_, _, _, _, _, _, c16, c17, _⟩ := au_cells h
  clear h
  generalize x.done = d at *
  generalize x.wrong = e at *
  cases d
  · go_enter Try.func14, Try.ntmps14
    go_wp2_with fail
    go_ret
    exact ⟨rfl, rfl⟩
  · go_enter Try.func14, Try.ntmps14
    go_wp2_with fail
    go_ret
    exact ⟨by simp, rfl⟩
theorem auto_Cap (w : World) (own : Nat → Nat) (a f D K : Nat) (x : AC) (h : AutW w own a f D K x) :
    Calls Try.prog 10 #[.pointer (some ⟨a, 0, none⟩)] w fun e w' => e = .returned (.int .i64 (D * (2 * K))) ∧ w' = w := by
  obtain ⟨_, _, _, c3, _⟩ := au_cells h.blk
  have HC := Lib.hid (frame_Cap w own x.s f D K h.stk)
  clear h
  generalize x.s = s at *
  generalize (D : Int) * (2 * (K : Int)) = N at *
  go_enter Try.func10, Try.ntmps10
  go_wp2_with fail
  refine HC.out.mono ?_
  rintro e w' ⟨rfl, rfl⟩
  go_wp2_with fail
  go_ret
  exact ⟨rfl, rfl⟩
/-- May the text be in UTF-8 with the byte, and is it, if that is the last one? -/
def won (u : UQ) (text c : Int) : Bool := !(ustep u c).wr && (decide (0 < text) || udone (ustep u c))
set_option maxRecDepth 4000 in
theorem auto_walkOn (w : World) (a : Nat) (x : AC) (c : Int) (h : Blk w a 73 x.cells) (hu : x.u.left < 100) :
    Calls Try.prog 50 #[.pointer (some ⟨a, 0, none⟩), .int .u8 c] w fun e w' => e = .returned (.bool (won x.u x.text c)) ∧ Blk w' a 73 { x with u := ustep x.u c }.cells ∧ Only a w w' := by
  have HS := Lib.hid (utf_stepO x.u c hu w a (au_walk h))
  have HX : Hid (∀ w', Fd w' a 11 73 x.u0 (ucells (ustep x.u c)) x.u1 → w'.cell? ⟨a, 10, none⟩ = some (.int .u64 x.text) ∧ Blk w' a 73 { x with u := ustep x.u c }.cells ∧ Calls Try.prog 61 #[.pointer (some ⟨a, 11, none⟩)] w' fun e w'' => e = .returned (.bool (udone (ustep x.u c))) ∧ w' = w'') := fun w' hf => by
    have hb := au_walk' hf
    exact ⟨(au_cells hb).2.2.2.2.1, hb, utf_doneO (ustep x.u c) w' a hf⟩
  unfold won
  generalize x.u0 = u0 at *
  generalize x.u1 = u1 at *
  generalize (AC.cells { x with u := ustep x.u c }) = cs at *
  generalize ustep x.u c = v at *
  generalize udone v = d at *
  generalize x.text = n at *
  cases hw : v.wr with
  | true =>
    rw [hw] at HS
    clear h
    go_enter Try.func50, Try.ntmps50
    go_wp2_with fail
    refine HS.out.mono ?_
    rintro e w1 ⟨rfl, b1, o1⟩
    obtain ⟨_, q2, _⟩ := HX.out w1 b1
    have H2 := Lib.hid q2
    have H3 := Lib.hid o1
    clear b1 o1 q2
    go_wp2_with fail
    go_ret
    exact ⟨rfl, H2.out, H3.out⟩
  | false =>
    rw [hw] at HS
    clear h
    by_cases hn : 0 < n
    · go_enter Try.func50, Try.ntmps50
      go_wp2_with fail
      refine HS.out.mono ?_
      rintro e w1 ⟨rfl, b1, o1⟩
      obtain ⟨q1, q2, _⟩ := HX.out w1 b1
      have H2 := Lib.hid q2
      have H3 := Lib.hid o1
      clear b1 o1 q2
      go_wp2_with fail
      go_ret
      exact ⟨by simp [hn], H2.out, H3.out⟩
    · go_enter Try.func50, Try.ntmps50
      go_wp2_with fail
      refine HS.out.mono ?_
      rintro e w1 ⟨rfl, b1, o1⟩
      obtain ⟨q1, q2, q3⟩ := HX.out w1 b1
      have H2 := Lib.hid q2
      have H3 := Lib.hid o1
      have H4 := Lib.hid q3
      clear b1 o1 q2 q3
      go_wp2_with fail
      refine H4.out.mono ?_
      rintro e w2 ⟨rfl, rfl⟩
      go_wp2_with fail
      go_ret
      exact ⟨by simp, H2.out, H3.out⟩
end Go.Proofs.Ytchhbcmkhbfpoaa
