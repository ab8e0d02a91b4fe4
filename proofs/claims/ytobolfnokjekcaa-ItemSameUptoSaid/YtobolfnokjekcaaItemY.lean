
/- Two copies, made in any order of the rest. -/
import Derived.Test.YtobolfnokjekcaaAny
namespace Go.Proofs.Ytobolfnokjekcaa
open Go.RowKit

/-- A copy's blocks are those of D. -/
def Cs (w : World) (n : Nat) (l : List It) (A : Option Addr) (cap : Nat) (D : Nat → Prop) : Prop :=
  l.length ≤ cap ∧ (A = none → cap = 0) ∧ ∃ M, Inv w n 0 M (fun _ _ => False) ∧ (∀ g l', M g = some l' → D g) ∧ (l = [] ∨ ∃ g, A = some ⟨g, 0, none⟩ ∧ M g = some l)
theorem Cs.keep {w w' : World} {n : Nat} {l : List It} {A : Option Addr} {cap : Nat} {D : Nat → Prop} (h : Cs w n l A cap D) (hD : ∀ b, D b → w'.heap[b]? = w.heap[b]?) (hn : Below n w w') : Cs w' n l A cap D := by
  obtain ⟨h1, h2, M, h3, h4, h5⟩ := h
  exact ⟨h1, h2, M, h3.moved (fun g l' hg => hD g (h4 g l' hg)) hn, h4, h5⟩
theorem Cpd.cs {w : World} {n B : Nat} {l : List It} {A : Option Addr} {cap : Nat} (h : Cpd w n B l A cap) : Cs w n l A cap fun b => B ≤ b ∧ b < w.heap.size := by
  obtain ⟨h1, h2, M, h3, h4⟩ := h
  refine ⟨h1, h2, M, h3.less (Nat.zero_le _), fun g l' hg => ?_, h4⟩
  obtain ⟨k1, ⟨_, k2, _⟩, _⟩ := h3 g l' hg
  exact ⟨k1, k2.lt⟩
theorem Cs.toV {w : World} {n : Nat} {t : It} {A : Option Addr} {cap : Nat} {D : Nat → Prop} (h : Cs w n t.l A cap D) : AtV w t A cap := by
  obtain ⟨h1, h2, M, h3, _, h5⟩ := h
  refine ⟨h1, h2, ?_⟩
  rcases h5 with e | ⟨g, rfl, hg⟩
  · rw [e]; exact AtL.nil _
  · exact (h3.at _ _ _ (Nat.le_refl _) hg).more fun _ _ => trivial
def zero4 : Array Value := #[.int .i64 0, .int .u64 0, .string ⟨#[]⟩, .slice none 0 0]
def vC (x : It) (A : Option Addr) (cap : Nat) : Array Value := #[.int .i64 x.k, .int .u64 x.n, .string x.s, .slice A x.l.length cap]
/-- The frame but for those slots. -/
def Fr (T : Array Value) (a : Act) : Prop := a.defers = [] ∧ a.tmps.size = T.size ∧ ∀ j, j ≠ 5 → j ≠ 6 → j ≠ 39 → j ≠ 40 → j ≠ 41 → j ≠ 42 → a.tmps[j]? = T[j]?
theorem Fr.put {T : Array Value} {a : Act} {d : Nat} (v : Value) (h : Fr T a) (hd : d = 5 ∨ d = 6 ∨ d = 39 ∨ d = 40 ∨ d = 41 ∨ d = 42) : Fr T (a.put (some d) v) := by
  refine ⟨h.1, by simpa [Act.put] using h.2.1, fun j h1 h2 h3 h4 h5 h6 => ?_⟩
  have : d ≠ j := by rintro rfl; rcases hd with h | h | h | h | h | h <;> contradiction
  simp [Act.put, this]
  exact h.2.2 j h1 h2 h3 h4 h5 h6
/-- Ahead of the two stores. -/
structure S7 (N n : Nat) (w5 : World) (x : It) (vx : Value) (T : Array Value) (s : Array Bool) (a : Act) (W : World) (D1 D3 : Nat → Prop) (gC gD : Nat) : Prop where
  fr : Fr T a
  low : Below N w5 W
  f0 : Up s 0 → a.eval (.tmp 39) = vx
  f2 : Up s 2 → a.eval (.tmp 41) = vx
  d1 : ∀ b, D1 b → N ≤ b ∧ b < W.heap.size
  d3 : ∀ b, D3 b → N ≤ b ∧ b < W.heap.size
  dd : ∀ b, D1 b → ¬ D3 b
  f1 : Up s 1 → ∃ A c, a.eval (.tmp 40) = .agg (vC x A c) ∧ Cs W n x.l A c D1
  f3 : Up s 3 → ∃ A c, a.eval (.tmp 42) = .agg (vC x A c) ∧ Cs W n x.l A c D3
  e1 : ¬ Up s 1 → ∀ b, ¬ D1 b
  e3 : ¬ Up s 3 → ∀ b, ¬ D3 b
  f4 : Up s 4 → a.eval (.tmp 5) = .pointer (some ⟨gC, 0, none⟩) ∧ N ≤ gC ∧ gC < W.heap.size ∧ ¬ D1 gC ∧ ¬ D3 gC ∧ Blk W gC 25 zero4
  f5 : Up s 5 → a.eval (.tmp 6) = .pointer (some ⟨gD, 0, none⟩) ∧ N ≤ gD ∧ gD < W.heap.size ∧ ¬ D1 gD ∧ ¬ D3 gD ∧ Blk W gD 25 zero4
  f45 : Up s 4 → Up s 5 → gC ≠ gD
section
variable {N n gC gD : Nat} {w5 W W' : World} {x : It} {vx : Value} {T : Array Value} {s : Array Bool} {a : Act} {D1 D3 : Nat → Prop}
/-- A load into slot 39, 41. -/
theorem S7.load (h : S7 N n w5 x vx T s a W D1 D3 gC gD) (hT : T.size = 94) (hs : s.size = 8) {i : Nat} {d : Nat} (hi : (i = 0 ∧ d = 39) ∨ (i = 2 ∧ d = 41)) : S7 N n w5 x vx T (s.setIfInBounds i true) (a.put (some d) vx) W D1 D3 gC gD := by
  have hsz : a.tmps.size = 94 := h.fr.2.1.trans hT
  have hi8 : i < s.size := by omega
  have hup : ∀ j, j ≠ i → Up (s.setIfInBounds i true) j → Up s j := fun j hj hu => (up_set hi8).1 hu |>.resolve_left hj
  have hdn : ∀ j, ¬ Up (s.setIfInBounds i true) j → ¬ Up s j := fun j hu h' => hu ((up_set hi8).2 (.inr h'))
  have ne : ∀ t : Nat, t ≠ d → (a.put (some d) vx).eval (.tmp t) = a.eval (.tmp t) := fun t ht => eval_put_ne a vx ht
  refine ⟨h.fr.put vx (by omega), h.low, fun hu => ?_, fun hu => ?_, h.d1, h.d3, h.dd, fun hu => ?_, fun hu => ?_, fun hu => h.e1 (hdn _ hu), fun hu => h.e3 (hdn _ hu), fun hu => ?_, fun hu => ?_, fun h4 h5 => h.f45 (hup 4 (by omega) h4) (hup 5 (by omega) h5)⟩
  · rcases hi with ⟨rfl, rfl⟩ | ⟨rfl, rfl⟩
    · exact eval_put a vx (by omega)
    · rw [ne 39 (by decide)]; exact h.f0 (hup 0 (by omega) hu)
  · rcases hi with ⟨rfl, rfl⟩ | ⟨rfl, rfl⟩
    · rw [ne 41 (by decide)]; exact h.f2 (hup 2 (by omega) hu)
    · exact eval_put a vx (by omega)
  · rw [ne 40 (by omega)]; exact h.f1 (hup 1 (by omega) hu)
  · rw [ne 42 (by omega)]; exact h.f3 (hup 3 (by omega) hu)
  · rw [ne 5 (by omega)]; exact h.f4 (hup 4 (by omega) hu)
  · rw [ne 6 (by omega)]; exact h.f5 (hup 5 (by omega) hu)
/-- The first copy. -/
theorem S7.copy1 (h : S7 N n w5 x vx T s a W D1 D3 gC gD) (hT : T.size = 94) (hs : s.size = 8) (hn : n ≤ W.heap.size) (hN : N ≤ W.heap.size) {A : Option Addr} {c : Nat} (hc : Cpd W' n W.heap.size x.l A c) (hb : Below W.heap.size W W') :
    S7 N n w5 x vx T (s.setIfInBounds 1 true) (a.put (some 40) (.agg (vC x A c))) W' (fun b => W.heap.size ≤ b ∧ b < W'.heap.size) D3 gC gD := by
  have hsz : a.tmps.size = 94 := h.fr.2.1.trans hT
  have hi8 : 1 < s.size := by omega
  have hup : ∀ j, j ≠ 1 → Up (s.setIfInBounds 1 true) j → Up s j := fun j hj hu => (up_set hi8).1 hu |>.resolve_left hj
  have hdn : ∀ j, ¬ Up (s.setIfInBounds 1 true) j → ¬ Up s j := fun j hu h' => hu ((up_set hi8).2 (.inr h'))
  have ne : ∀ t : Nat, t ≠ 40 → (a.put (some 40) (.agg (vC x A c))).eval (.tmp t) = a.eval (.tmp t) := fun t ht => eval_put_ne a _ ht
  have hsl := hb.size
  refine ⟨h.fr.put _ (by omega), h.low.trans (hb.mono hN), fun hu => ?_, fun hu => ?_, fun b hb' => ⟨by omega, hb'.2⟩, fun b hb' => ?_, fun b hb' hd => ?_, fun _ => ⟨A, c, eval_put a _ (by omega), hc.cs⟩, fun hu => ?_, fun hu => absurd ((up_set hi8).2 (.inl rfl)) hu, fun hu => h.e3 (hdn _ hu), fun hu => ?_, fun hu => ?_,
    fun h4 h5 => h.f45 (hup 4 (by omega) h4) (hup 5 (by omega) h5)⟩
  · rw [ne 39 (by decide)]; exact h.f0 (hup 0 (by omega) hu)
  · rw [ne 41 (by decide)]; exact h.f2 (hup 2 (by omega) hu)
  · have := h.d3 b hb'; omega
  · have := h.d3 b hd; omega
  · obtain ⟨A3, c3, k1, k2⟩ := h.f3 (hup 3 (by omega) hu)
    exact ⟨A3, c3, by rw [ne 42 (by decide)]; exact k1, k2.keep (fun b hb' => hb.block b (h.d3 b hb').2) (hb.mono hn)⟩
  · obtain ⟨k1, k2, k3, k4, k5, k6⟩ := h.f4 (hup 4 (by omega) hu)
    exact ⟨by rw [ne 5 (by decide)]; exact k1, k2, by omega, fun hq => by omega, k5, k6.on hb⟩
  · obtain ⟨k1, k2, k3, k4, k5, k6⟩ := h.f5 (hup 5 (by omega) hu)
    exact ⟨by rw [ne 6 (by decide)]; exact k1, k2, by omega, fun hq => by omega, k5, k6.on hb⟩
/-- The second. -/
theorem S7.copy3 (h : S7 N n w5 x vx T s a W D1 D3 gC gD) (hT : T.size = 94) (hs : s.size = 8) (hn : n ≤ W.heap.size) (hN : N ≤ W.heap.size) {A : Option Addr} {c : Nat} (hc : Cpd W' n W.heap.size x.l A c) (hb : Below W.heap.size W W') :
    S7 N n w5 x vx T (s.setIfInBounds 3 true) (a.put (some 42) (.agg (vC x A c))) W' D1 (fun b => W.heap.size ≤ b ∧ b < W'.heap.size) gC gD := by
  have hsz : a.tmps.size = 94 := h.fr.2.1.trans hT
  have hi8 : 3 < s.size := by omega
  have hup : ∀ j, j ≠ 3 → Up (s.setIfInBounds 3 true) j → Up s j := fun j hj hu => (up_set hi8).1 hu |>.resolve_left hj
  have hdn : ∀ j, ¬ Up (s.setIfInBounds 3 true) j → ¬ Up s j := fun j hu h' => hu ((up_set hi8).2 (.inr h'))
  have ne : ∀ t : Nat, t ≠ 42 → (a.put (some 42) (.agg (vC x A c))).eval (.tmp t) = a.eval (.tmp t) := fun t ht => eval_put_ne a _ ht
  have hsl := hb.size
  refine ⟨h.fr.put _ (by omega), h.low.trans (hb.mono hN), fun hu => ?_, fun hu => ?_, fun b hb' => ?_, fun b hb' => ⟨by omega, hb'.2⟩, fun b hd hb' => ?_, fun hu => ?_, fun _ => ⟨A, c, eval_put a _ (by omega), hc.cs⟩, fun hu => h.e1 (hdn _ hu), fun hu => absurd ((up_set hi8).2 (.inl rfl)) hu, fun hu => ?_, fun hu => ?_,
    fun h4 h5 => h.f45 (hup 4 (by omega) h4) (hup 5 (by omega) h5)⟩
  · rw [ne 39 (by decide)]; exact h.f0 (hup 0 (by omega) hu)
  · rw [ne 41 (by decide)]; exact h.f2 (hup 2 (by omega) hu)
  · have := h.d1 b hb'; omega
  · have := h.d1 b hd; omega
  · obtain ⟨A3, c3, k1, k2⟩ := h.f1 (hup 1 (by omega) hu)
    exact ⟨A3, c3, by rw [ne 40 (by decide)]; exact k1, k2.keep (fun b hb' => hb.block b (h.d1 b hb').2) (hb.mono hn)⟩
  · obtain ⟨k1, k2, k3, k4, k5, k6⟩ := h.f4 (hup 4 (by omega) hu)
    exact ⟨by rw [ne 5 (by decide)]; exact k1, k2, by omega, k4, fun hq => by omega, k6.on hb⟩
  · obtain ⟨k1, k2, k3, k4, k5, k6⟩ := h.f5 (hup 5 (by omega) hu)
    exact ⟨by rw [ne 6 (by decide)]; exact k1, k2, by omega, k4, fun hq => by omega, k6.on hb⟩
theorem S7.alloc (h : S7 N n w5 x vx T s a W D1 D3 gC gD) (hT : T.size = 94) (hs : s.size = 8) (hn : n ≤ W.heap.size) (hN : N ≤ W.heap.size) {i : Nat} {d : Nat} (hi : (i = 4 ∧ d = 5) ∨ (i = 5 ∧ d = 6)) :
    S7 N n w5 x vx T (s.setIfInBounds i true) (a.put (some d) (.pointer (some ⟨W.heap.size, 0, none⟩))) (W.alloc (.cells zero4 25)) D1 D3 (if i = 4 then W.heap.size else gC) (if i = 4 then gD else W.heap.size) := by
  have hsz : a.tmps.size = 94 := h.fr.2.1.trans hT
  have hi8 : i < s.size := by omega
  have hup : ∀ j, j ≠ i → Up (s.setIfInBounds i true) j → Up s j := fun j hj hu => (up_set hi8).1 hu |>.resolve_left hj
  have hdn : ∀ j, ¬ Up (s.setIfInBounds i true) j → ¬ Up s j := fun j hu h' => hu ((up_set hi8).2 (.inr h'))
  have ne : ∀ t : Nat, t ≠ d → (a.put (some d) (.pointer (some ⟨W.heap.size, 0, none⟩))).eval (.tmp t) = a.eval (.tmp t) := fun t ht => eval_put_ne a _ ht
  have hb := below_alloc W (.cells zero4 25)
  have hsl : (W.alloc (.cells zero4 25)).heap.size = W.heap.size + 1 := by simp
  have hnew := Blk.fresh W 25 zero4
  refine ⟨h.fr.put _ (by omega), h.low.trans (hb.mono hN), fun hu => ?_, fun hu => ?_, fun b hb' => ?_, fun b hb' => ?_, h.dd, fun hu => ?_, fun hu => ?_, fun hu => h.e1 (hdn _ hu), fun hu => h.e3 (hdn _ hu), fun hu => ?_, fun hu => ?_, fun h4 h5 => ?_⟩
  · rw [ne 39 (by omega)]; exact h.f0 (hup 0 (by omega) hu)
  · rw [ne 41 (by omega)]; exact h.f2 (hup 2 (by omega) hu)
  · have := h.d1 b hb'; omega
  · have := h.d3 b hb'; omega
  · obtain ⟨A3, c3, k1, k2⟩ := h.f1 (hup 1 (by omega) hu)
    exact ⟨A3, c3, by rw [ne 40 (by omega)]; exact k1, k2.keep (fun b hb' => hb.block b (h.d1 b hb').2) (hb.mono hn)⟩
  · obtain ⟨A3, c3, k1, k2⟩ := h.f3 (hup 3 (by omega) hu)
    exact ⟨A3, c3, by rw [ne 42 (by omega)]; exact k1, k2.keep (fun b hb' => hb.block b (h.d3 b hb').2) (hb.mono hn)⟩
  · rcases hi with ⟨rfl, rfl⟩ | ⟨rfl, rfl⟩
    · exact ⟨eval_put a _ (by omega), hN, by simp, fun hq => by have := h.d1 _ hq; simp at this, fun hq => by have := h.d3 _ hq; simp at this, hnew⟩
    · obtain ⟨k1, k2, k3, k4, k5, k6⟩ := h.f4 (hup 4 (by omega) hu)
      exact ⟨by rw [ne 5 (by decide)]; exact k1, k2, by simp; omega, k4, k5, k6.on hb⟩
  · rcases hi with ⟨rfl, rfl⟩ | ⟨rfl, rfl⟩
    · obtain ⟨k1, k2, k3, k4, k5, k6⟩ := h.f5 (hup 5 (by omega) hu)
      exact ⟨by rw [ne 6 (by decide)]; exact k1, k2, by simp; omega, k4, k5, k6.on hb⟩
    · exact ⟨eval_put a _ (by omega), hN, by simp, fun hq => by have := h.d1 _ hq; simp at this, fun hq => by have := h.d3 _ hq; simp at this, hnew⟩
  · rcases hi with ⟨rfl, rfl⟩ | ⟨rfl, rfl⟩
    · have := (h.f5 (hup 5 (by omega) h5)).2.2.1
      simp; omega
    · have := (h.f4 (hup 4 (by omega) h4)).2.2.1
      simp; omega
end
end Go.Proofs.Ytobolfnokjekcaa
